/-
  'awake' of layer 15 answers true.
-/
import Derived.Test.YtkbgogofedppgaaRoD
import Derived.Test.YtkbgogofedppgaaRoG
import Derived.Test.YtkbgogofedppgaaRoF
import Derived.Test.YtkbgogofedppgaaFill
namespace Go.Proofs.Ytkbgogofedppgaa
open Go.RowKit Word Rec Scan Roll Leaf
set_option linter.unusedVariables false

namespace Roll
abbrev rcK (k b c : Int) : Rc := ⟨k, 0, 0, b, c, z32⟩
abbrev foK (k b c p : Int) : Fo := ⟨p, rcK k b c⟩
theorem rcK_in (k b c : Int) : In (rcK k b c) := ⟨by simp [z32], fun z hz => by simp [z32] at hz; omega⟩
def awF : List Fo := [foK 1 3 0 9, foK 2 4 0 8, foK 3 0 2 7, foK 1 5 0 6]
theorem awF_in : ∀ f ∈ awF, FIn f := by
  intro f hf
  simp only [awF, List.mem_cons, List.not_mem_nil, or_false] at hf
  rcases hf with rfl | rfl | rfl | rfl <;> exact rcK_in _ _ _
theorem awF_groups : groups awF = [⟨false, 0, [⟨3, 9⟩, ⟨4, 0⟩]⟩] := by rfl
end Roll
theorem run_build_recK (w : World) (k b c : Int) :
    (Instr.build 39 #[(0, .int .i64 k), (3, .int .i64 b), (4, .int .i64 c)]).run Try.prog w = .ok (.agg (rcs (rcK k b c)).toArray) w := by
  have hp := rec_places w
  simp only [Program.fieldsOf, Try.underlying39] at hp
  unfold Instr.build
  simp only [Sem.run_bind, zero_rec w, Result.andThen, run_underlying Try.underlying39, hp]
  have e : Instr.fill (fun x => #[((0, 1) : Nat × Nat), (1, 1), (2, 1), (3, 1), (4, 1), (5, 32)][x]?) (Value.agg (rcs rc0).toArray).cells [(0, .int .i64 k), (3, .int .i64 b), (4, .int .i64 c)] = some (rcs (rcK k b c)).toArray := by
    refine (fill_int _ [] _ _ _ _ 0 0 _ rfl rfl).trans ?_
    refine (fill_int _ [_, _, _] _ _ _ _ 3 3 _ rfl rfl).trans ?_
    exact (fill_int _ [_, _, _, _] _ _ _ _ 4 4 _ rfl rfl).trans rfl
  rw [e]
  rfl
theorem wpList_rc_buildK {w : World} {ops : Array Oper} {rest : List Oper} {o : Oper} {a : Act} {Q : Exit → Act → World → Prop} (hgd : o.guard = none) (x0 x3 x4 : Operand) (ho : o.op = .build 39 #[(0, x0), (3, x3), (4, x4)]) (k b c : Int)
    (h0 : a.eval x0 = .int .i64 k) (h3 : a.eval x3 = .int .i64 b) (h4 : a.eval x4 = .int .i64 c)
    (h : wpList Try.prog ops Q rest (a.put o.dst (.agg (rcs (rcK k b c)).toArray)) w) : wpList Try.prog ops Q (o :: rest) a w := by
  refine wpList_plain hgd fun K hK => ?_
  unfold Oper.wp
  simp [execOp, ho, h0, h3, h4, run_build_recK w k b c, Result.andThen]
  exact hK _ _ h
set_option maxRecDepth 100000 in
theorem found_any (k b c p : Int) (w : World) : Calls Try.prog 15 #[.int .i64 k, .int .i64 b, .int .i64 c, .int .i64 p] w fun e w' => e = .returned (.agg (fcs (foK k b c p)).toArray) ∧ Below w.heap.size w w' := by
  obtain ⟨mr, hmr, hszr⟩ := big_size (P := Try.prog) (t := 41) (s := 38) (by kernel_rfl)
  have hmr0 : ¬ mr = 0 := by omega
  have HI : Hid (FIn (foK k b c p)) := Lib.hid (rcK_in k b c)
  go_enter Try.func15, Try.ntmps15
  go_wp2_with (first
    | ((with_reducible refine wpList_fo_alloc (o := ⟨some 8, .alloc _, _, _, _, _⟩) rfl rfl ?_); intro w1 x1 hB1 hs1; clear hs1)
    | ((with_reducible refine wpList_rc_buildK (o := ⟨some 13, .build _ _, _, _, _, _⟩) rfl _ _ _ rfl k b c rfl rfl rfl ?_))
    | ((with_reducible refine wpList_fo_build (o := ⟨some 14, .build _ _, _, _, _, _⟩) rfl _ _ rfl (foK k b c p) HI.out rfl rfl ?_))
    | ((with_reducible refine wpList_fo_store (o := ⟨none, .store _ (.tmp 8) _, _, _, _, _⟩) rfl _ _ rfl w.heap.size (foK k b c p) fo0 HI.out fo0_in rfl rfl x1 ?_); go_loud (intro w2 x2 hg2 hs2))
    | fail)
  have hB := below_stored hB1 hg2 hB1.size (Nat.le_refl _)
  have hld := big_load0 Try.prog w.heap.size 0 (fcs (foK k b c p)) mr (by rw [fcs_length HI.out, hmr]) _ x2.range0
  generalize hR : fcs (foK k b c p) = R at hld ⊢
  exact bodyPost_ret (v := .agg R.toArray) (by simp [results, Try.results15, go_sem, hszr, hld]) rfl ⟨rfl, hB⟩
theorem awF_fls : fls awF = fcs (foK 1 3 0 9) ++ (fcs (foK 2 4 0 8) ++ (fcs (foK 3 0 2 7) ++ fcs (foK 1 5 0 6))) := by simp [fls, awF]
theorem one_gv {L : List Gv} {g : Gp} (h : L.map Gv.g = [g]) : ∃ A c, L = [⟨g, A, c⟩] := by
  match L, h with
  | [x], h =>
    obtain ⟨xg, xA, xc⟩ := x
    obtain rfl : xg = g := by simpa using h
    exact ⟨xA, xc, rfl⟩
  | [], h => simp at h
  | x :: y :: l, h => simp at h
theorem awF_len : ∀ us ∈ [fcs (foK 1 3 0 9), fcs (foK 2 4 0 8), fcs (foK 3 0 2 7), fcs (foK 1 5 0 6)], us.length = 38 := by
  intro us hu
  simp only [List.mem_cons, List.not_mem_nil, or_false] at hu
  rcases hu with rfl | rfl | rfl | rfl <;> exact fcs_length (rcK_in _ _ _)
set_option maxRecDepth 100000 in
set_option maxHeartbeats 4000000 in
theorem awake_any (w : World) : Calls Try.prog 7 #[] w fun e w' => e = .returned (.bool true) ∧ Below w.heap.size w w' := by
  have HLn := Lib.hid awF_len
  have hqa := eql_ch
  go_enter Try.func7, Try.ntmps7
  go_wp2_with fail
  refine (found_any 1 3 0 9 _).mono ?_
  rintro e w1 ⟨rfl, b1⟩
  have B1 := Lib.hid b1
  clear b1
  go_wp2_with fail
  refine (found_any 2 4 0 8 _).mono ?_
  rintro e w2 ⟨rfl, b2⟩
  have B2 := Lib.hid (bthen B1.out b2)
  clear b2
  go_wp2_with fail
  refine (found_any 3 0 2 7 _).mono ?_
  rintro e w3 ⟨rfl, b3⟩
  have B3 := Lib.hid (bthen B2.out b3)
  clear b3
  go_wp2_with fail
  refine (found_any 1 5 0 6 _).mono ?_
  rintro e w4 ⟨rfl, b4⟩
  have B4 := Lib.hid (bthen B3.out b4)
  clear b4
  go_wp2_with (first
    | ((with_reducible refine wpList_slice_four _ (o := ⟨some 7, .buildSlice _ _ _, _, _, _, _⟩) rfl _ _ _ _ 33 rfl 41 _ 38 80 elemF (by decide) (fcs (foK 1 3 0 9)) (fcs (foK 2 4 0 8)) (fcs (foK 3 0 2 7)) (fcs (foK 1 5 0 6)) HLn.out rfl rfl rfl rfl ?_))
    | fail)
  have HW : Hid (Rd (w4.alloc (.cells (fcs (foK 1 3 0 9) ++ (fcs (foK 2 4 0 8) ++ (fcs (foK 3 0 2 7) ++ fcs (foK 1 5 0 6)))).toArray 41)) (w4.alloc (.cells (fcs (foK 1 3 0 9) ++ (fcs (foK 2 4 0 8) ++ (fcs (foK 3 0 2 7) ++ fcs (foK 1 5 0 6)))).toArray 41)).heap.size (some ⟨w4.heap.size, 0, none⟩) (fls awF) ∧ Below w.heap.size w (w4.alloc (.cells (fcs (foK 1 3 0 9) ++ (fcs (foK 2 4 0 8) ++ (fcs (foK 3 0 2 7) ++ fcs (foK 1 5 0 6)))).toArray 41))) := Lib.hid ⟨by rw [awF_fls]; exact rd_new w4 _ _ (0, 0), B4.out.alloc B4.out.size _⟩
  generalize World.alloc _ _ = w5 at HW ⊢
  refine (groups_any (some ⟨w4.heap.size, 0, none⟩) 4 4 awF w5 rfl (by decide) awF_in HW.out.1).mono ?_
  rintro e w6 ⟨V, L, rfl, hL, hO, hb6⟩
  rw [awF_groups] at hL
  obtain ⟨xA, xc, rfl⟩ := one_gv hL
  obtain ⟨A6, c6, rfl⟩ := own_slice hO.row
  obtain ⟨g6, rfl, _, _⟩ := own_at hO.row (by simp)
  have hch := hO.each _ (List.mem_singleton.2 rfl)
  obtain ⟨gc, hA, _, _⟩ := own_at hch (by simp)
  subst hA
  have r6 := Rd.own hO.row
  have rc := Rd.own hch
  have k2 : w6.cell? ⟨g6, 2, none⟩ = some (.slice (some ⟨gc, 0, none⟩) 2 xc) := r6.cell0 (k := 2) rfl
  have d0 : w6.cell? ⟨gc, 0, none⟩ = some (.int .i64 3) := rc.cell0 (k := 0) rfl
  have d1 : w6.cell? ⟨gc, 1, none⟩ = some (.int .i64 9) := rc.cell0 (k := 1) rfl
  have d2 : w6.cell? ⟨gc, 2, none⟩ = some (.int .i64 4) := rc.cell0 (k := 2) rfl
  have d3 : w6.cell? ⟨gc, 3, none⟩ = some (.int .i64 0) := rc.cell0 (k := 3) rfl
  have HG := Lib.hid (hO.rd)
  have HB6 := Lib.hid (bthen HW.out.2 hb6)
  clear hL hO hch r6 rc hb6
  go_wp2_with fail
  have HU := Lib.hid (users_any _ 1 c6 _ w6 rfl (by decide) HG.out.1)
  rw [show users (List.map Gv.g [⟨⟨false, 0, [⟨3, 9⟩, ⟨4, 0⟩]⟩, some ⟨gc, 0, none⟩, xc⟩]) = 1 from rfl] at HU
  refine HU.out.mono ?_
  rintro e w7 ⟨rfl, hb7⟩
  have HG7 := Lib.hid (HG.out.on hb7)
  have HB7 := Lib.hid (bthen HB6.out hb7)
  clear hb7 HU k2 d0 d1 d2 d3 HG
  go_wp2_with fail
  have hr8 : Rd (w7.alloc (.cells #[.int .i64 1, .int .i64 1, .int .i64 1, .int .i64 1, .int .i64 1] 3)) (w7.alloc (.cells #[.int .i64 1, .int .i64 1, .int .i64 1, .int .i64 1, .int .i64 1] 3)).heap.size (some ⟨w7.heap.size, 0, none⟩) (is [1, 1, 1, 1, 1]) := rd_new w7 (is [1, 1, 1, 1, 1]) _ (0, 0)
  have hb8 : Below w7.heap.size w7 (w7.alloc (.cells #[.int .i64 1, .int .i64 1, .int .i64 1, .int .i64 1, .int .i64 1] 3)) := (Below.refl _ _).alloc (Nat.le_refl _) _
  generalize World.alloc _ _ = w8 at hr8 hb8 ⊢
  have HD := Lib.hid (do_any (some ⟨w7.heap.size, 0, none⟩) 5 5 [1, 1, 1, 1, 1] _ 1 c6 _ w8 rfl (by decide) rfl (by decide) (by
    intro x hx
    rw [List.mem_singleton.1 hx]
    show 2 ≤ maxLen
    decide) hr8 (HG7.out.on hb8))
  rw [show doS [1, 1, 1, 1, 1] (List.map Gv.g [⟨⟨false, 0, [⟨3, 9⟩, ⟨4, 0⟩]⟩, some ⟨gc, 0, none⟩, xc⟩]) = [1, 1, 1, 9, 0] from rfl] at HD
  have HB8 := Lib.hid (bthen HB7.out hb8)
  clear hr8 hb8
  refine HD.out.mono ?_
  rintro e w9 ⟨V9, rfl, hown9, hb9⟩
  obtain ⟨A9, c9, rfl⟩ := own_slice hown9
  have HR9 := Lib.hid (Rd.own hown9)
  have HB9 := Lib.hid (bthen HB8.out hb9)
  clear hown9 hb9 HD
  go_wp2_with fail
  have hr10 : Rd (w9.alloc (.cells #[.int .i64 1, .int .i64 1, .int .i64 1, .int .i64 9, .int .i64 0] 3)) (w9.alloc (.cells #[.int .i64 1, .int .i64 1, .int .i64 1, .int .i64 9, .int .i64 0] 3)).heap.size (some ⟨w9.heap.size, 0, none⟩) (is [1, 1, 1, 9, 0]) := rd_new w9 (is [1, 1, 1, 9, 0]) _ (0, 0)
  have hb10 : Below w9.heap.size w9 (w9.alloc (.cells #[.int .i64 1, .int .i64 1, .int .i64 1, .int .i64 9, .int .i64 0] 3)) := (Below.refl _ _).alloc (Nat.le_refl _) _
  generalize World.alloc _ _ = w10 at hr10 hb10 ⊢
  have HS := Lib.hid (isame_any A9 (some ⟨w9.heap.size, 0, none⟩) 5 c9 5 5 w10 (by decide) (by decide) [1, 1, 1, 9, 0] [1, 1, 1, 9, 0] rfl rfl w10.heap.size ((HR9.out.below hb10).more hb10.size) hr10)
  rw [beq_self_eq_true] at HS
  have HB10 := Lib.hid (bthen HB9.out hb10)
  clear hr10 hb10
  refine HS.out.mono ?_
  rintro e w11 ⟨rfl, n, rfl⟩
  have HB11 := Lib.hid (below_draws HB10.out n)
  clear HS
  go_wp2
  go_ret
  exact ⟨rfl, HB11.out⟩
end Go.Proofs.Ytkbgogofedppgaa

/-
  Package dev: Write.
-/
import Derived.Test.YtdacdnpghngiiaaDevN
namespace Go.Proofs.Ytdacdnpghngiiaa
open Go.RowKit Geom Zone Dev
set_option linter.unusedVariables false

theorem fill_written (z o : Int) (p : List Int) (hp : p.length = 64) (pl : Nat → Option (Nat × Nat)) (h0 : pl 0 = some (0, 2)) (h1 : pl 1 = some (2, 64)) :
    Instr.fill pl (wc (0, 0, z64)).toArray [(0, .agg #[.int .i64 z, .int .i64 o]), (1, .agg (bs p).toArray)] = some (wc (z, o, p)).toArray := by
  have hl : (wc ((0, 0, z64) : Wr)).length = 66 := wc_length rfl
  have hb : (bs p).length = 64 := by rw [bs_length, hp]
  have e1 : (Value.agg #[.int .i64 z, .int .i64 o]).cells = #[.int .i64 z, .int .i64 o] := rfl
  have e2 : (Value.agg (bs p).toArray).cells = (bs p).toArray := rfl
  have hf := foldl_set_off 2 (bs p) (bs z64) 0 [.int .i64 z, .int .i64 o] rfl (by rw [hb]; exact Nat.le_refl _)
  have hd : (bs z64).drop (bs p).length = [] := List.drop_eq_nil_of_le (by rw [hb]; exact Nat.le_refl _)
  rw [hd, List.append_nil] at hf
  have hw : (wc ((0, 0, z64) : Wr)) = .int .i64 0 :: .int .i64 0 :: bs z64 := rfl
  unfold Instr.fill
  simp only [h0, e1]
  rw [if_neg (by simp [hl])]
  unfold Instr.fill
  simp only [h1, e2]
  rw [if_neg (by simp [hl, hb])]
  unfold Instr.fill
  rw [hw]
  have e3 : (Array.foldl (fun (cs : Array Value) (x : Value × Nat) => cs.setIfInBounds (0 + x.2) x.1) (Value.int .i64 0 :: .int .i64 0 :: bs z64).toArray #[Value.int .i64 z, .int .i64 o].zipIdx) = ([Value.int .i64 z, .int .i64 o] ++ bs z64).toArray := by
    rw [← Array.foldl_toList, Array.toList_zipIdx]
    simp [List.zipIdx_cons]
  rw [e3, ← Array.foldl_toList, Array.toList_zipIdx, hf]
  rfl
theorem run_build_written (w : World) (z o : Int) (p : List Int) (hp : p.length = 64) :
    (Instr.build 75 #[(0, .agg #[.int .i64 z, .int .i64 o]), (1, .agg (bs p).toArray)]).run Try.prog w = .ok (.agg (wc (z, o, p)).toArray) w := by
  have hz : (zeroValue 75).run Try.prog w = .ok (.agg (wc (0, 0, z64)).toArray) w := (zero_of_info (P := Try.prog) (t := 75) (v := .agg (wc (0, 0, z64)).toArray) (n := 66) (by kernel_rfl)).1 w
  unfold Instr.build
  simp only [Sem.run_bind, hz, Result.andThen, run_underlying Try.underlying75]
  have h36 : ∀ w : World, (sizeOf 36).run Try.prog w = .ok 2 w := by intro w; go_simp
  have h38 : ∀ w : World, (sizeOf 38).run Try.prog w = .ok 64 w := by intro w; go_simp
  simp only [List.mapM_toArray, List.mapM_cons, List.mapM_nil, Sem.run_bind, Sem.run_pure, h36, h38, Result.andThen, Sem.run_map]
  have e : Instr.fill (fun x => #[((0, 2) : Nat × Nat), (2, 64)][x]?) (Value.agg (wc (0, 0, z64)).toArray).cells [(0, Value.agg #[Value.int .i64 z, Value.int .i64 o]), (1, Value.agg (bs p).toArray)] = some (wc (z, o, p)).toArray := fill_written z o p hp _ rfl rfl
  rw [e]
  rfl

theorem wpList_build_written (w : World) {ops : Array Oper} {rest : List Oper} {o : Oper} {a : Act} {Q : Exit → Act → World → Prop} (hgd : o.guard = none) (x y : Operand) (ho : o.op = .build 75 #[(0, x), (1, y)]) (z f : Int) (p : List Int) (hp : p.length = 64)
    (hx : a.eval x = .agg #[.int .i64 z, .int .i64 f]) (hy : a.eval y = .agg (bs p).toArray) (h : wpList Try.prog ops Q rest (a.put o.dst (.agg (wc (z, f, p)).toArray)) w) : wpList Try.prog ops Q (o :: rest) a w := by
  refine wpList_plain hgd fun K hK => ?_
  unfold Oper.wp
  simp [execOp, ho, hx, hy, run_build_written w z f p hp, Result.andThen]
  exact hK _ _ h
section
variable {w : World} {d : Nat} {conv soft seq size opn : Int} {zv : Value} {lb : Nat} {cv : Value} {nb : Nat} {down : Bool} {armed ill : Int}
set_option maxRecDepth 100000 in
set_option maxHeartbeats 1000000 in
theorem write1_any (bd ba bp : Nat) (z o : Int) (p : List Int) (l : List Wr) (n2 : Nat) (hp : p.length = 64) (hl : WOk l) (h1 : W64 z) (h2 : W64 o) (hll : l.length ≤ 100000) (hn2 : n2 ≤ 100000) (hD : DBlk w d conv soft seq size opn zv lb cv nb down armed ill)
    (hcv : w.ownsRow 0 75 66 cv l.length (wcs l)) (hm : MapIs w nb n2 (newestV l)) (x0 : Box w bd 32 [dp d]) (x1 : Box w ba 36 [.int .i64 z, .int .i64 o]) (x2 : Box w bp 38 (bs p)) :
    Calls Try.prog 34 #[.pointer (some ⟨bd, 0, none⟩), .pointer (some ⟨ba, 0, none⟩), .pointer (some ⟨bp, 0, none⟩)] w fun x w' => x = .returned (.tuple #[]) ∧ ∃ cv', DBlk w' d conv soft seq size opn zv lb cv' nb down armed ill ∧
      w'.ownsRow 0 75 66 cv' (l ++ [(z, o, p)]).length (wcs (l ++ [(z, o, p)])) ∧ MapIs w' nb (n2 + 1) (newestV (l ++ [(z, o, p)])) ∧ Fr (fun k => k = d ∨ k = nb ∨ cv.ownBlock = some k) w w' ∧ (cv'.ownBlock = cv.ownBlock ∨ ∃ g, cv'.ownBlock = some g ∧ w.heap.size ≤ g) := by
  have HH := Lib.hid (hold_any (z, o, p) l n2 hp hl h1 h2 hll hn2 hD hcv hm)
  have c0 : w.cell? ⟨bd, 0, none⟩ = some (dp d) := x0.cell 0
  have a0 : w.cell? ⟨ba, 0, none⟩ = some (.int .i64 z) := x1.cell 0
  have a1 : w.cell? ⟨ba, 1, none⟩ = some (.int .i64 o) := x1.cell 1
  obtain ⟨m8, hm8, hsz8⟩ := big_size (P := Try.prog) (t := 38) (s := 64) (by kernel_rfl)
  have hbm : (bs p).length = m8 := by rw [bs_length, hp, hm8]
  have hld := big_load0 Try.prog bp 0 (bs p) m8 hbm w (fun j v hj => by rw [Nat.zero_add]; exact (x2.cell j).trans hj)
  have HM := Lib.hid hm8
  clear hm8 hD hcv hm x0 x1 x2 hl
  go_enter Try.func34, Try.ntmps34
  go_wp2_with (with_reducible refine wpList_build_written _ (o := ⟨some 6, _, _, _, _, _⟩) rfl _ _ rfl z o p hp rfl rfl ?_)
  refine HH.out.mono ?_
  rintro x w' ⟨rfl, h⟩
  have H := Lib.hid h
  clear h
  go_wp2
  go_end0
  exact ⟨rfl, H.out⟩
end
end Go.Proofs.Ytdacdnpghngiiaa

/-
  CkB CkC CkE
-/
import Derived.Test.YtgnpohkippegpaaGreatMg17
import Derived.Test.YtgnpohkippegpaaGreatMg30
import Derived.Test.YtgnpohkippegpaaGreatMg35
import Derived.Test.YtgnpohkippegpaaGreatMg04
import Derived.Test.YtgnpohkippegpaaGreatMg29
import Derived.Test.YtgnpohkippegpaaGreatMg26
import Derived.Test.YtgnpohkippegpaaGreatMg32
/-
  Sectors in rows; where a region's sectors stand; what may be a head.
-/
namespace Go.Proofs.YtgnpohkippegpaaGreat
open Go.RowKit Geom Zone Dev
set_option linter.unusedVariables false

abbrev gcl (conv soft seq size opn : Int) : List Value := [.int .i64 conv, .int .i64 soft, .int .i64 seq, .int .i64 size, .int .i64 opn]
abbrev gvl (conv soft seq size opn : Int) : Value := .agg #[.int .i64 conv, .int .i64 soft, .int .i64 seq, .int .i64 size, .int .i64 opn]

namespace Ckp
/-- sectors in cells -/
abbrev pgcs (l : List (List Int)) : List Value := l.flatMap bs
def P64 (l : List (List Int)) : Prop := ∀ p ∈ l, p.length = 64
theorem P64.bs {l : List (List Int)} (h : P64 l) : ∀ p ∈ l, (bs p).length = 64 := fun p hp => (bs_length p).trans (h p hp)
theorem pgcs_append (l m : List (List Int)) : pgcs (l ++ m) = pgcs l ++ pgcs m := by simp [pgcs]
theorem pgcs_one (p : List Int) : pgcs [p] = bs p := by simp [pgcs]
theorem pgcs_snoc (l : List (List Int)) (p : List Int) : pgcs (l ++ [p]) = pgcs l ++ bs p := by rw [pgcs_append, pgcs_one]
theorem pgcs_length : ∀ {l : List (List Int)}, P64 l → (pgcs l).length = l.length * 64
  | [], _ => rfl
  | p :: l, h => by
    have h1 := h p List.mem_cons_self
    have h2 := pgcs_length (l := l) fun q hq => h q (List.mem_cons_of_mem _ hq)
    show (bs p ++ pgcs l).length = _
    rw [List.length_append, bs_length, h1, h2, List.length_cons]
    omega
theorem pgcs_cells {l : List (List Int)} {u : Value} (h : u ∈ pgcs l) : u.oneCell' = true := by
  obtain ⟨p, _, hu⟩ := List.mem_flatMap.1 h
  exact bs_one _ _ hu
theorem pgcs_get {l : List (List Int)} (h : P64 l) {k : Nat} {p : List Int} (hk : l[k]? = some p) {j : Nat} (hj : j < 64) : (pgcs l)[k * 64 + j]? = (bs p)[j]? := flat_get bs 64 l k j p h.bs hk hj
/-- where a region's sectors stand -/
def plZ (low : Int) : Int := if low = 1 then 0 else 1
def plO (low : Int) : Int := if low = 1 then 1 else 0
theorem plZ_one : plZ 1 = 0 := rfl
theorem plO_one : plO 1 = 1 := rfl
theorem plZ_no {low : Int} (h : low ≠ 1) : plZ low = 1 := if_neg h
theorem plO_no {low : Int} (h : low ≠ 1) : plO low = 0 := if_neg h
/-- may it be a checkpoint's head -/
def headB (m : Mast.Mst) (P : Int) : Bool := Mast.okB m && (!m.foot && m.pages == P)
end Ckp
open Ckp
theorem elemP : Elem Tryz.prog 40 43 (.agg (bs pg0).toArray) 64 64 := Elem.of Tryz.underlying40 (by kernel_rfl) rfl (by decide)
theorem wpList_pg_slice1 {w : World} {ops : Array Oper} {rest : List Oper} {o : Oper} {a : Act} {Q : Exit → Act → World → Prop} (hgd : o.guard = none) (x : Operand) (ho : o.op = .buildSlice 40 1 #[(0, x)]) (L : List Value) (hL : L.length = 64) (hx : a.eval x = .agg L.toArray)
    (h : wpList Tryz.prog ops Q rest (a.put o.dst (.slice (some ⟨w.heap.size, 0, none⟩) 1 1)) (w.alloc (.cells L.toArray 43))) : wpList Tryz.prog ops Q (o :: rest) a w := by
  refine wpList_plain hgd fun K hK => ?_
  have hr := run_buildSlice_one (P := Tryz.prog) w elemP (by decide) L hL
  unfold Oper.wp
  simp [execOp, ho, hx, hr, Result.andThen]
  exact hK _ _ h
theorem ckplace_any (low i : Int) (w : World) (h0 : 0 ≤ i) (h1 : i ≤ 100000) :
    Calls Tryz.prog 24 #[.int .i64 low, .int .i64 i] w fun e w' => e = .returned (.agg #[.int .i64 (plZ low), .int .i64 (plO low + i)]) ∧ Below w.heap.size w w' := by
  have hq := IntWalk.i64_in (1 + i) (by omega)
  by_cases hl : low = 1
  · subst hl
    go_enter Tryz.func24, Tryz.ntmps24
    go_wp2
    refine bodyPost_ret (v := .agg #[.int .i64 0, .int .i64 (1 + i)]) (by simp [results, Tryz.results24, go_sem]) rfl ⟨rfl, ?_⟩
    exact (Below.refl _ _).alloc (Nat.le_refl _) _
  · have HZ := Lib.hid (plZ_no hl)
    have HO := Lib.hid (plO_no hl)
    go_enter Tryz.func24, Tryz.ntmps24
    go_wp2
    refine bodyPost_ret (v := .agg #[.int .i64 1, .int .i64 i]) (by simp [results, Tryz.results24, go_sem]) rfl ⟨by rw [HZ.out, HO.out, Int.zero_add], ?_⟩
    exact (Below.refl _ _).alloc (Nat.le_refl _) _
theorem rckat_any (gen i : Int) (w : World) (h0 : 0 ≤ i) (h1 : i ≤ 100000) (hg0 : 0 ≤ gen) :
    Calls Tryz.prog 12 #[.int .i64 gen, .int .i64 i] w fun e w' => e = .returned (.agg #[.int .i64 (plZ (gen % 2)), .int .i64 (plO (gen % 2) + i)]) ∧ Below w.heap.size w w' := by
  have hq := IntWalk.i64_in (1 + i) (by omega)
  by_cases hl : gen % 2 = 1
  · have HZ := Lib.hid (show plZ (gen % 2) = 0 by rw [hl]; rfl)
    have HO := Lib.hid (show plO (gen % 2) = 1 by rw [hl]; rfl)
    have hb : (gen % 2 == 1) = true := by simpa using hl
    clear hl
    go_enter Tryz.func12, Tryz.ntmps12
    go_wp2
    refine bodyPost_ret (v := .agg #[.int .i64 0, .int .i64 (1 + i)]) (by simp [results, Tryz.results12, go_sem]) rfl ⟨by rw [HZ.out, HO.out], ?_⟩
    exact (Below.refl _ _).alloc (Nat.le_refl _) _
  · have HZ := Lib.hid (plZ_no hl)
    have HO := Lib.hid (plO_no hl)
    have hb : (gen % 2 == 1) = false := by simpa using hl
    clear hl
    go_enter Tryz.func12, Tryz.ntmps12
    go_wp2
    refine bodyPost_ret (v := .agg #[.int .i64 1, .int .i64 i]) (by simp [results, Tryz.results12, go_sem]) rfl ⟨by rw [HZ.out, HO.out, Int.zero_add], ?_⟩
    exact (Below.refl _ _).alloc (Nat.le_refl _) _
set_option maxRecDepth 100000 in
theorem ishead_any (conv soft seq size opn : Int) (m : Mast.Mst) (w : World) (H : Some conv seq size) :
    Calls Tryz.prog 21 #[gvl conv soft seq size opn, .agg (mcs m).toArray] w fun e w' => e = .returned (.bool (headB m (Geom.pages seq size))) ∧ Below w.heap.size w w' := by
  obtain ⟨mr, hmr, hszr⟩ := big_size (P := Tryz.prog) (t := 34) (s := 6) (by kernel_rfl)
  have hmr0 : ¬ mr = 0 := by omega
  have HM := Lib.hid hmr
  have HR := Lib.hid fun w' => msright_any m w'
  have HP := Lib.hid fun w' => pages_any conv soft seq size opn w' H
  have HB := Lib.hid (show headB m (Geom.pages seq size) = (Mast.okB m && (!m.foot && m.pages == Geom.pages seq size)) from rfl)
  have LA := Lib.hid fun (W : World) (b : Nat) (x : Mast.Mst) (h : Box W b 34 (mcs x)) => big_load0 Tryz.prog b 0 (mcs x) mr (by rw [mcs_length, HM.out]) W h.range0
  generalize Geom.pages seq size = pg at *
  generalize headB m pg = hb at *
  generalize Mast.okB m = ok at *
  clear hmr H
  go_enter Tryz.func21, Tryz.ntmps21
  go_wp2_with (first
    | ((with_reducible refine wpList_box_box _ (o := ⟨some 2, .box _ _, _, _, _, _⟩) rfl _ _ rfl (gcl conv soft seq size opn) rfl ?_); intro w1 x0 hB1 hs1; clear hs1)
    | ((with_reducible refine wpList_ms_box (o := ⟨some 3, .box _ _, _, _, _, _⟩) rfl _ rfl m rfl ?_); intro w2 x1 hB2 hs2)
    | fail)
  have L : Bxs w w2 [(w1.heap.size, 34, mcs m), (w.heap.size, 23, gcl conv soft seq size opn)] := ((Bxs.nil w).add hB1 x0).add hB2 x1
  clear x0 hB1 x1 hB2 hs2
  generalize w1.heap.size = b1 at L ⊢
  cases ok with
  | false =>
    refine wp_region_class (fun w' => Bxs w w' [(b1, 34, mcs m), (w.heap.size, 23, gcl conv soft seq size opn)]) (by kernel_rfl) (by kernel_rfl) L.drew ?_
    intro X hX f hf hg
    have ca := fun x => LA.out _ _ _ (hf x).head
    have Hf := Lib.hid hf
    have Hg := Lib.hid hg
    clear hf hg L
    try simp only [Act.put, List.setIfInBounds_toArray, List.set_cons_succ, List.set_cons_zero]
    repeat (go_big_quiet_step ((go_at_call 44; with_reducible exact calls_class (HR.out _) (fun _ hb => Hg.out _ ((Hf.out _).on hb)))))
    refine wpQuiet_nil ?_
    rintro _ ⟨x, rfl⟩
    have HL := Lib.hid (Hf.out x).below
    clear ca Hf Hg hX
    generalize f x = W3 at HL ⊢
    go_wp2
    go_ret
    exact ⟨ret_bool (by rw [HB.out]; rfl), HL.out⟩
  | true =>
    cases hft : m.foot with
    | true =>
      refine wp_region_class (fun w' => Bxs w w' [(b1, 34, mcs m), (w.heap.size, 23, gcl conv soft seq size opn)]) (by kernel_rfl) (by kernel_rfl) L.drew ?_
      intro X hX f hf hg
      have ca := fun x => LA.out _ _ _ (hf x).head
      have cf := fun x => (hf x).head.ms.1
      rw [hft] at cf HB
      have Hf := Lib.hid hf
      have Hg := Lib.hid hg
      clear hf hg L
      try simp only [Act.put, List.setIfInBounds_toArray, List.set_cons_succ, List.set_cons_zero]
      repeat (go_big_quiet_step ((go_at_call 44; with_reducible exact calls_class (HR.out _) (fun _ hb => Hg.out _ ((Hf.out _).on hb)))))
      refine wpQuiet_nil ?_
      rintro _ ⟨x, rfl⟩
      have HL := Lib.hid (Hf.out x).below
      clear ca cf Hf Hg hX
      generalize f x = W3 at HL ⊢
      go_wp2
      go_ret
      exact ⟨ret_bool (by rw [HB.out]; rfl), HL.out⟩
    | false =>
      refine wp_region_class (fun w' => Bxs w w' [(b1, 34, mcs m), (w.heap.size, 23, gcl conv soft seq size opn)]) (by kernel_rfl) (by kernel_rfl) L.drew ?_
      intro X hX f hf hg
      have ca := fun x => LA.out _ _ _ (hf x).head
      have cf := fun x => (hf x).head.ms.1
      have cp := fun x => (hf x).head.ms.2.2.2.2.1
      have c0 := fun x => (hf x).tail.head.cell 0
      have c1 := fun x => (hf x).tail.head.cell 1
      have c2 := fun x => (hf x).tail.head.cell 2
      have c3 := fun x => (hf x).tail.head.cell 3
      have c4 := fun x => (hf x).tail.head.cell 4
      simp only [List.getElem?_cons_zero, List.getElem?_cons_succ] at c0 c1 c2 c3 c4
      rw [hft] at cf HB
      have Hf := Lib.hid hf
      have Hg := Lib.hid hg
      clear hf hg L
      try simp only [Act.put, List.setIfInBounds_toArray, List.set_cons_succ, List.set_cons_zero]
      repeat (go_big_quiet_step (first
        | (go_at_call 44; with_reducible exact calls_class (HR.out _) (fun _ hb => Hg.out _ ((Hf.out _).on hb)))
        | (go_at_call 45; with_reducible exact calls_class (HP.out _) (fun _ hb => Hg.out _ ((Hf.out _).on hb)))))
      refine wpQuiet_nil ?_
      rintro _ ⟨x, rfl⟩
      have HL := Lib.hid (Hf.out x).below
      clear ca cf cp c0 c1 c2 c3 c4 Hf Hg hX
      generalize f x = W3 at HL ⊢
      go_wp2
      go_ret
      exact ⟨ret_bool (by rw [HB.out]; simp), HL.out⟩
end Go.Proofs.YtgnpohkippegpaaGreat

/-
  Package ckpt: foot; the sectors of a checkpoint (laid).
-/
namespace Go.Proofs.YtgnpohkippegpaaGreat
open Go.RowKit Geom Zone Dev Ckp Word
set_option linter.unusedVariables false

namespace Ckp
def Oct (ls : List (List Int)) : Prop := ∀ p ∈ ls, octets p
theorem Oct.flat {ls : List (List Int)} (h : Oct ls) : octets ls.flatten := fun z hz => by
  obtain ⟨p, hp, hz⟩ := List.mem_flatten.1 hz
  exact h p hp z hz
theorem Oct.take {ls : List (List Int)} (h : Oct ls) (k : Nat) : Oct (ls.take k) := fun p hp => h p (List.mem_of_mem_take hp)
abbrev mf (m : Mast.Mst) (s : Int) : Mast.Mst := ⟨true, m.gen, m.epoch, m.seq, m.pages, s⟩
theorem mf_foot (m : Mast.Mst) (ls : List (List Int)) : mf m ((Crc.sum ls.flatten : Nat) : Int) = footOf m ls := rfl
theorem take_sum {ls : List (List Int)} {k : Nat} {p : List Int} (hk : ls[k]? = some p) : Crc.more (Crc.sum (ls.take k).flatten) p = Crc.sum (ls.take (k + 1)).flatten := by
  obtain ⟨hlt, rfl⟩ := List.getElem?_eq_some_iff.1 hk
  rw [Crc.more_sum, List.take_succ_eq_append_getElem hlt, List.flatten_append]
  simp
end Ckp
/-- the head's variable, and the answer's -/
structure FtSt (w W : World) (b : Nat) (f : Mast.Mst) : Prop where
  fb : Box W w.heap.size 34 (mcs f)
  rb : Box W b 34 (mcs Mast.m0)
  bl : Below w.heap.size w W
  lt : w.heap.size < b
theorem FtSt.on {w W W' : World} {b : Nat} {f : Mast.Mst} (h : FtSt w W b f) (hb : Below W.heap.size W W') : FtSt w W' b f := ⟨h.fb.on hb, h.rb.on hb, bthen h.bl hb, h.lt⟩
theorem FtSt.set0 {w W : World} {b : Nat} {f : Mast.Mst} (h : FtSt w W b f) (v : Bool) : FtSt w (W.setCell ⟨w.heap.size, 0, none⟩ (.bool v)) b { f with foot := v } :=
  ⟨h.fb.set 0 _, h.rb.same (Below.heap_setCell _ _ _ _ (Nat.ne_of_gt h.lt)), h.bl.setCell (Nat.le_refl _) _, h.lt⟩
theorem FtSt.set5 {w W : World} {b : Nat} {f : Mast.Mst} (h : FtSt w W b f) (s : Int) : FtSt w (W.setCell ⟨w.heap.size, 5, none⟩ (.int .u32 s)) b { f with sum := s } :=
  ⟨h.fb.set 5 _, h.rb.same (Below.heap_setCell _ _ _ _ (Nat.ne_of_gt h.lt)), h.bl.setCell (Nat.le_refl _) _, h.lt⟩
set_option maxRecDepth 100000 in
set_option maxHeartbeats 2000000 in
theorem ckfoot_any (m : Mast.Mst) (A : Option Addr) (n cap : Nat) (ls : List (List Int)) (w : World) (hn : ls.length = n) (hl : P64 ls) (ho : Oct ls) (hn1 : n ≤ 1000) (hr : Rd w w.heap.size A (pgcs ls)) :
    Calls Tryz.prog 52 #[.agg (mcs m).toArray, .slice A n cap] w fun e w' => e = .returned (.agg (mcs (footOf m ls)).toArray) ∧ Below w.heap.size w w' := by
  obtain ⟨m6, hm6, hszp⟩ := big_size (P := Tryz.prog) (t := 43) (s := 64) (by kernel_rfl)
  obtain ⟨mr, hmr, hszr⟩ := big_size (P := Tryz.prog) (t := 34) (s := 6) (by kernel_rfl)
  have hm60 : ¬ m6 = 0 := by omega
  have hmr0 : ¬ mr = 0 := by omega
  have HM := Lib.hid (And.intro hm6 hmr)
  have HN := Lib.hid hn
  have HL := Lib.hid (And.intro hl (And.intro ho hr))
  have HS := Lib.hid fun (w : World) => sum_any (none) 0 0 [] w (by decide) rfl (by simp [octets]) 0 Rd.empty
  have LA := Lib.hid fun (W : World) (b : Nat) (x : Mast.Mst) (h : Box W b 34 (mcs x)) => big_load0 Tryz.prog b 0 (mcs x) mr (by rw [mcs_length, HM.out.2]) W h.range0
  clear hm6 hmr hl ho hr hn
  go_enter Tryz.func52, Tryz.ntmps52
  go_wp2_with (first
    | ((with_reducible refine wpList_ms_box (o := ⟨some 2, .box _ _, _, _, _, _⟩) rfl _ rfl m rfl ?_); intro w1 x0 hB1 hs1)
    | ((with_reducible refine wpList_ms_alloc (o := ⟨some 4, .alloc _, _, _, _, _⟩) rfl rfl ?_); intro w2 x1 hB2 hs2; have L : FtSt w w2 w1.heap.size m := ⟨x0.on hB2, x1, bthen hB1 hB2, by omega⟩; have c0 := L.fb.cell 0; have f0 := L.fb.frozen 0; clear x0 hB1 hs1 x1 hB2 hs2; generalize w1.heap.size = b at *)
    | fail)
  refine (HS.out _).mono ?_
  rintro e w3 ⟨rfl, rfl⟩
  replace L := L.set0 true
  clear c0 f0 HS
  generalize World.setCell w2 _ _ = w3 at L ⊢
  have c5 := L.fb.cell 5
  have f5 := L.fb.frozen 5
  have L5 := Lib.hid (L.set5 ((Crc.sum [] : Nat) : Int))
  clear L
  go_wp2
  clear c5 f5
  go_loopw [12] (fun i wr => ∃ k : Nat, k ≤ n ∧ i = .int .i64 k ∧ FtSt w wr b (mf m ((Crc.sum (ls.take k).flatten : Nat) : Int))) (fun i _ => n - (intOf i).toNat)
  case atStart => exact ⟨0, by omega, rfl, L5.out⟩
  case round =>
    clear L5
    obtain ⟨k, hk, rfl, hst⟩ := hrel
    by_cases hlt : k < n
    · obtain ⟨p, hp⟩ : ∃ p, ls[k]? = some p := ⟨ls[k]'(by rw [HN.out]; exact hlt), List.getElem?_eq_getElem _⟩
      have hpm := List.mem_of_getElem? hp
      have HPp := Lib.hid (And.intro (HL.out.1 p hpm) (HL.out.2.1 p hpm))
      obtain ⟨ad, rfl, hld⟩ := big_elem Tryz.prog (w := wr) (m := m6) (HL.out.2.2.below hst.bl) (fun y hy => (HL.out.1.bs y hy).trans HM.out.1.symm) (by omega) k p hp
      have HSm := Lib.hid (And.intro (Crc.sum_lt (HL.out.2.1.take k).flat) (take_sum hp))
      have hki : (k : Int) < (n : Int) := by omega
      have HSt := Lib.hid hst
      clear hst hp hpm
      generalize Crc.sum (ls.take k).flatten = s at *
      go_wp2_with (first
        | ((with_reducible refine wpList_pg_alloc (o := ⟨some 6, .alloc _, _, _, _, _⟩) rfl rfl ?_); intro w5 x5 hB5 hs5; clear hs5)
        | ((with_reducible refine wpList_pg_store (o := ⟨none, .store _ _ _, _, _, _, _⟩) rfl _ _ rfl wr.heap.size p pg0 HPp.out.1 rfl rfl rfl x5 ?_); intro w6 x6 hg6 hs6; have L6 := Lib.hid (HSt.out.on (below_stored hB5 hg6 hB5.size (Nat.le_refl _))); have X6 := Lib.hid x6; clear hB5 x5 hg6 hs6 hld HSt x6; generalize wr.heap.size = bp at *; have c5 : w6.cell? ⟨w.heap.size, 5, none⟩ = some (.int .u32 (s : Int)) := L6.out.fb.cell 5; have f5 := L6.out.fb.frozen 5)
        | fail)
      have HMo := Lib.hid fun w' (h : Box w' bp 43 (bs p)) => more_any s (some ⟨bp, 0, none⟩) 64 64 p w' HSm.out.1 (by decide) HPp.out.1 HPp.out.2 _ (Rd.own (h.own (by rw [bs_length, HPp.out.1]) (by decide) 0 (Nat.zero_le _)))
      have L7 : Hid (FtSt w (w6.setCell ⟨w.heap.size, 5, none⟩ (.int .u32 ((Crc.more s p : Nat) : Int))) b (mf m ((Crc.more s p : Nat) : Int))) := Lib.hid (L6.out.set5 _)
      rw [HSm.out.2] at HMo L7
      generalize hs' : Crc.sum (ls.take (k + 1)).flatten = s' at *
      have HS' := Lib.hid hs'
      clear hs'
      go_region_with ((go_at_call 81; refine (HMo.out w6.drew X6.out).mono ?_; rintro e w' ⟨rfl, rfl⟩))
      all_goals go_wp2
      all_goals go_roundw
      case rel => exact ⟨k + 1, by omega, by go_num, by rw [HS'.out]; exact L7.out.on (Below.refl _ _).drew⟩
      case measure => simp [intOf]; omega
    · obtain rfl : n = k := by omega
      have HSt : Hid (FtSt w wr b (footOf m ls)) := Lib.hid (by
        have h := hst
        rwa [List.take_of_length_le (by rw [HN.out]; exact Nat.le_refl _), mf_foot] at h)
      clear hst
      generalize hf : footOf m ls = f at *
      have HF := Lib.hid hf
      clear hf
      have hld := LA.out _ _ _ HSt.out.fb
      have HR := Lib.hid HSt.out.rb
      go_wp2_with (first
        | ((with_reducible refine wpList_ms_store (o := ⟨none, .store _ _ _, _, _, _, _⟩) rfl _ _ rfl b f Mast.m0 rfl rfl HR.out ?_); intro w9 hb9 hg9 _)
        | fail)
      have hldF := LA.out _ _ _ hb9
      have HBl := Lib.hid (below_stored HSt.out.bl hg9 HSt.out.bl.size (Nat.le_of_lt HSt.out.lt))
      generalize hR : mcs f = R at hldF ⊢
      exact bodyPost_ret (v := .agg R.toArray) (by simp [results, Tryz.results52, go_sem, hszr, hldF]) rfl ⟨by rw [HF.out, hR], HBl.out⟩
end Go.Proofs.YtgnpohkippegpaaGreat

/-
  Package ckpt: the sectors of a checkpoint (laid).
-/
namespace Go.Proofs.YtgnpohkippegpaaGreat
open Go.RowKit Geom Zone Dev Ckp Word
set_option linter.unusedVariables false

namespace Ckp
open Tbl
/-- places that a leaf can bear -/
def Nar (ys : List Int) : Prop := ∀ y ∈ ys, Leaf.place y
theorem lf_ok {ys : List Int} {gen : Int} {P i : Nat} (hg : Rec.num gen) (hy : Nar ys) (hP : P ≤ 410) (hi : i < P) : Leaf.Ok (lfOf ys gen i) :=
  ⟨hg, ⟨by show (0 : Int) ≤ (i : Int); omega, by show (i : Int) ≤ 4096; omega⟩, fun y hm => hy y (List.mem_of_mem_drop (List.mem_of_mem_take hm))⟩
theorem lvs_snoc {ys : List Int} {gen : Int} {P k : Nat} (h : k < P) : (lvs ys gen P).take (k + 1) = (lvs ys gen P).take k ++ [Leaf.layL (lfOf ys gen k)] := by
  have hl := lvs_length ys gen P
  have he := lvs_at (ys := ys) (gen := gen) h
  obtain ⟨h1, h2⟩ := List.getElem?_eq_some_iff.1 he
  rw [List.take_succ_eq_append_getElem h1, h2]
theorem lvs_mem {ys : List Int} {gen : Int} {P : Nat} {p : List Int} (h : p ∈ lvs ys gen P) : ∃ i, i < P ∧ p = Leaf.layL (lfOf ys gen i) := by
  obtain ⟨i, hi⟩ := List.getElem?_of_mem h
  have hl := lvs_length ys gen P
  have hlt : i < P := by
    have := (List.getElem?_eq_some_iff.1 hi).1
    omega
  rw [lvs_at hlt] at hi
  exact ⟨i, hlt, by injection hi with hi; exact hi.symm⟩
theorem lvs_64 {ys : List Int} {gen : Int} {P : Nat} (hy : ys.length = 10 * P) : P64 (lvs ys gen P) := fun p hp => by
  obtain ⟨i, hi, rfl⟩ := lvs_mem hp
  exact Leaf.layL_length _ (leafOf_length hy hi)
theorem lvs_oct {ys : List Int} {gen : Int} {P : Nat} : Oct (lvs ys gen P) := fun p hp => by
  obtain ⟨i, hi, rfl⟩ := lvs_mem hp
  exact Leaf.layL_octets _
theorem foot_ok {m : Mast.Mst} {ls : List (List Int)} (h : Mast.Ok m) (ho : Oct ls) : Mast.Ok (footOf m ls) ∧ Mast.In (footOf m ls) := by
  obtain ⟨h1, h2, h3, h4, h5⟩ := h
  refine ⟨⟨h1, h2, h3, h4, .inl rfl⟩, ?_⟩
  have := Crc.sum_lt ho.flat
  exact ⟨by show (0 : Int) ≤ ((Crc.sum ls.flatten : Nat) : Int); omega, by show ((Crc.sum ls.flatten : Nat) : Int) < 4294967296; omega⟩
end Ckp
theorem below_lit {w w6 : World} {o : Obj} {n c : Nat} (hg : (w.alloc o).grownBy w6 (Value.slice (some ⟨w.heap.size, 0, none⟩) n c).ownBlock) : Below w.heap.size w w6 :=
  ((Below.refl _ _).alloc (Nat.le_refl _) _).grown hg (by simp) (fun k hk => by injection hk with hk; exact Nat.le_of_eq hk)
set_option maxRecDepth 100000 in
set_option maxHeartbeats 4000000 in
theorem cklaid_any (m : Mast.Mst) {d g h n : Nat} {ys : List Int} {ds : List Bool} (w : World) (hin : Mast.In m) (hok : Mast.Ok m) (t : TbIs w d g h n ys ds) (hnar : Nar ys) :
    Calls Tryz.prog 23 #[.agg (mcs m).toArray, tp d] w fun e w' => ∃ V, e = .returned V ∧ w'.ownsRow w.heap.size 43 64 V (Tbl.pages n + 2) (pgcs (secs m ys (Tbl.pages n))) ∧ Below w.heap.size w w' := by
  obtain ⟨mr, hmr, hszr⟩ := big_size (P := Tryz.prog) (t := 34) (s := 6) (by kernel_rfl)
  obtain ⟨ml, hml, hszl⟩ := big_size (P := Tryz.prog) (t := 86) (s := 12) (by kernel_rfl)
  have hmr0 : ¬ mr = 0 := by omega
  have hml0 : ¬ ml = 0 := by omega
  have HM := Lib.hid (And.intro hmr hml)
  have LA := Lib.hid fun (W : World) (b : Nat) (x : Mast.Mst) (h : Box W b 34 (mcs x)) => big_load0 Tryz.prog b 0 (mcs x) mr (by rw [mcs_length, HM.out.1]) W h.range0
  have HY := Lib.hid t.hy
  have hP := pages_le t.hn
  have HP := Lib.hid hP
  have HMs := Lib.hid (And.intro hok hin)
  have HLf : Hid (∀ i, i < Tbl.pages n → Leaf.Ok (Tbl.lfOf ys m.gen i) ∧ Leaf.In (Tbl.lfOf ys m.gen i)) := Lib.hid fun i hi => ⟨lf_ok hok.1 hnar hP hi, Tbl.leafOf_length t.hy hi⟩
  have HI := Lib.hid (lfsOf_in (gen := m.gen) t.hy)
  have HT := Lib.hid t
  clear hmr hml t hin hok hnar
  go_enter Tryz.func23, Tryz.ntmps23
  go_wp2_with (first
    | ((with_reducible refine wpList_ms_box (o := ⟨some 2, .box _ _, _, _, _, _⟩) rfl _ rfl m rfl ?_); intro w1 x0 hB1 hs1; clear hs1; have c1 : w1.cell? ⟨w.heap.size, 1, none⟩ = some (.int .i64 m.gen) := x0.cell 1)
    | fail)
  have T1 := Lib.hid (HT.out.on hB1)
  have L1 := Lib.hid (And.intro x0 hB1)
  clear HT x0 hB1
  refine (tleaves_any w1 m.gen T1.out).mono ?_
  rintro e w2 ⟨b, rfl, hx, hbB, hB2⟩
  have X2 := Lib.hid hx
  have L2 := Lib.hid (And.intro (L1.out.1.on hB2) (bthen L1.out.2 hB2))
  clear c1 hx hB2 hbB L1 T1
  go_wp2
  generalize hPn : Tbl.pages n = P at *
  have HPn := Lib.hid hPn
  clear hPn
  go_loopw [5, 14] (fun o i wr => ∃ k : Nat, k ≤ P ∧ i = .int .i64 k ∧ wr.ownsRow w2.heap.size 43 64 o k (pgcs ((lvs ys m.gen P).take k)) ∧ Below w2.heap.size w2 wr) (fun _ i _ => P - (intOf i).toNat)
  case atStart => exact ⟨0, by omega, rfl, World.ownsRow_nil _ _ _ _, Below.refl _ _⟩
  case round =>
    obtain ⟨k, hk, rfl, hown, hbl⟩ := hrel
    have HO := Lib.hid (And.intro hown hbl)
    clear hown hbl
    by_cases hlt : k < P
    · have HKf := Lib.hid (HLf.out k hlt)
      have hRg : wr.rangeAt b (k * ml) (lcs (Tbl.lfOf ys m.gen k)) := (X2.out.on HO.out.2).range _ _ fun j v hv => by rw [HM.out.2]; exact lfls_at HI.out (lfsOf_get hlt) hv
      have hld := big_load0 Tryz.prog b (k * ml) (lcs (Tbl.lfOf ys m.gen k)) ml (by rw [lcs_length HKf.out.2, HM.out.2]) wr hRg
      have HSn := Lib.hid (lvs_snoc (ys := ys) (gen := m.gen) hlt)
      have hki : (k : Int) < (P : Int) := by omega
      have hsz := HO.out.2.size
      have HSz := Lib.hid hsz
      clear hRg hsz
      generalize Tbl.lfOf ys m.gen k = lf at *
      go_wp2_with (first
        | ((with_reducible refine wpList_lf_alloc (o := ⟨some 7, .alloc _, _, _, _, _⟩) rfl rfl ?_); intro w3 x3 hB3 hs3; clear hs3)
        | ((with_reducible refine wpList_lf_store (o := ⟨none, .store 86 _ _, _, _, _, _⟩) rfl _ _ rfl wr.heap.size lf Leaf.lf0 HKf.out.2 Leaf.lf0_in rfl rfl x3 ?_); go_loud (intro w4 x4 hg4 hs4; have l4 := big_load0 Tryz.prog wr.heap.size 0 (lcs lf) ml (by rw [lcs_length HKf.out.2, HM.out.2]) _ x4.range0; have K4 := below_stored hB3 hg4 hB3.size (Nat.le_refl _); have O4 := Lib.hid (And.intro (own_below HO.out.1 K4) (HO.out.2.trans (K4.mono HSz.out))); clear x3 x4 hB3 hg4 hs4 K4; generalize wr.heap.size = bv at *))
        | fail)
      refine (lflay_any lf w4 HKf.out.1 HKf.out.2).mono ?_
      rintro e w5 ⟨rfl, hb5⟩
      have O5 := Lib.hid (And.intro (own_below O4.out.1 hb5) (And.intro (O4.out.2.trans (hb5.mono O4.out.2.size)) (Nat.le_trans O4.out.2.size hb5.size)))
      have HL0 : Hid ((bs (Leaf.layL lf)).length = 64 ∧ ∀ u ∈ bs (Leaf.layL lf), u.oneCell' = true) := Lib.hid ⟨by rw [bs_length]; exact Leaf.layL_length _ HKf.out.2, fun u hu => bs_one _ _ hu⟩
      clear l4 hb5 hld O4 HO
      generalize hL0 : bs (Leaf.layL lf) = L0 at *
      have HLe := Lib.hid hL0
      clear hL0
      generalize hCc : pgcs ((lvs ys m.gen P).take k) = C at *
      have HCc := Lib.hid hCc
      clear hCc
      have hsz' := O5.out.2.2
      go_wp2_with (first
        | ((with_reducible refine wpList_pg_slice1 (o := ⟨some 21, .buildSlice _ _ _, _, _, _, _⟩) rfl _ rfl L0 HL0.out.1 rfl ?_))
        | (at_builtin; go_loud (refine wpList_append_new _ rfl _ _ _ rfl w2.heap.size 43 _ 64 64 elemP u5 _ _ rfl L0 rfl O5.out.1 HL0.out.1 HL0.out.2 (by have := HP.out; simp only [maxLen]; omega) (by have := HP.out; omega) hsz' ?_); intro v1 w6 hown1 hg1; have HO := Lib.hid (And.intro hown1 (O5.out.2.1.grown hg1 hsz' fun g hg => (O5.out.1.lt g hg).1)); clear hown1 hg1)
        | fail)
      go_roundw
      case rel => exact ⟨k + 1, by omega, by go_num, by rw [HSn.out, pgcs_snoc, HLe.out, HCc.out]; exact HO.out.1, HO.out.2⟩
      case measure => simp [intOf]; omega
    · obtain rfl : P = k := by omega
      have HV : Hid (wr.ownsRow w2.heap.size 43 64 u5 P (pgcs (lvs ys m.gen P)) ∧ Below w2.heap.size w2 wr) := Lib.hid (by
        have h := HO.out
        rwa [List.take_of_length_le (by rw [lvs_length]; exact Nat.le_refl _)] at h)
      have HLv : Hid (P64 (lvs ys m.gen P) ∧ Oct (lvs ys m.gen P) ∧ (lvs ys m.gen P).length = P ∧ Mast.Ok (footOf m (lvs ys m.gen P)) ∧ Mast.In (footOf m (lvs ys m.gen P))) := Lib.hid ⟨lvs_64 (by rw [HY.out]), lvs_oct, lvs_length _ _ _, foot_ok HMs.out.1 lvs_oct⟩
      have HSe : Hid (pgcs (secs m ys P) = bs (Mast.layL m) ++ pgcs (lvs ys m.gen P) ++ bs (Mast.layL (footOf m (lvs ys m.gen P)))) := Lib.hid (by unfold secs; rw [← pgcs_one (Mast.layL (footOf m (lvs ys m.gen P))), List.append_assoc, ← pgcs_append]; rfl)
      clear HO
      obtain ⟨A5, c5, rfl⟩ := own_slice HV.out.1
      have HVr := Lib.hid (Rd.own HV.out.1)
      have L3 := Lib.hid (And.intro (L2.out.1.on HV.out.2) (L2.out.2.trans (HV.out.2.mono L2.out.2.size)))
      have hld := LA.out _ _ _ L3.out.1
      clear HV L2 X2
      generalize lvs ys m.gen P = lv at *
      go_wp2_with fail
      refine (mslay_any m wr HMs.out.2).mono ?_
      rintro e w4 ⟨rfl, hb4⟩
      rw [layS_ok HMs.out.1]
      have HVr4 := Lib.hid ((HVr.out.below hb4).more hb4.size)
      have L4 := Lib.hid (And.intro (L3.out.1.on hb4) (bthen L3.out.2 hb4))
      have HL0 : Hid ((bs (Mast.layL m)).length = 64 ∧ ∀ u ∈ bs (Mast.layL m), u.oneCell' = true) := Lib.hid ⟨by rw [bs_length]; exact Mast.layL_length _, fun u hu => bs_one _ _ hu⟩
      clear hb4 hld HVr L3
      generalize bs (Mast.layL m) = L0 at *
      have OW : Hid ((w4.alloc (.cells L0.toArray 43)).ownsRow w.heap.size 43 64 (.slice (some ⟨w4.heap.size, 0, none⟩) 1 1) 1 L0) := Lib.hid (World.ownsRow_lit w4 L0.toArray 1 L4.out.2.size (by decide) (by simp [HL0.out.1]))
      have hsz4 : w.heap.size ≤ (w4.alloc (.cells L0.toArray 43)).heap.size := by have := L4.out.2.size; simp; omega
      have HS4 := Lib.hid hsz4
      clear hsz4
      go_wp2_with (first
        | ((with_reducible refine wpList_pg_slice1 (o := ⟨some 26, .buildSlice _ _ _, _, _, _, _⟩) rfl _ rfl L0 HL0.out.1 rfl ?_))
        | (at_builtin; go_loud (refine wpList_append_rd _ rfl _ _ _ rfl w.heap.size 43 _ 64 64 elemP _ 1 L0 rfl OW.out _ A5 P c5 (pgcs lv) rfl (by rw [pgcs_length HLv.out.1, HLv.out.2.2.1]) (HVr4.out.alloc (Nat.le_refl _) _) (fun u hu => pgcs_cells hu) (by have := HP.out; simp only [maxLen]; omega) (by have := HP.out; omega) HS4.out ?_); go_loud (intro v1 w6 hown1 hg1 hat; have K6 := below_lit hg1; have O6 := Lib.hid (And.intro hown1 (And.intro (L4.out.1.on K6) (bthen L4.out.2 K6))); have HVr6 := Lib.hid ((HVr4.out.below K6).more K6.size); clear hown1 hg1 hat K6 OW HVr4 L4; have hld := LA.out _ _ _ O6.out.2.1))
        | fail)
      refine (ckfoot_any m A5 P c5 lv w6 HLv.out.2.2.1 HLv.out.1 HLv.out.2.1 (by have := HP.out; omega) HVr6.out).mono ?_
      rintro e w7 ⟨rfl, hb7⟩
      have O7 := Lib.hid (And.intro (own_below O6.out.1 hb7) (bthen O6.out.2.2 hb7))
      clear hb7 hld O6 HVr6
      generalize footOf m lv = f at *
      go_wp2_with fail
      refine (mslay_any f w7 HLv.out.2.2.2.2).mono ?_
      rintro e w8 ⟨rfl, hb8⟩
      rw [layS_ok HLv.out.2.2.2.1]
      have O8 := Lib.hid (And.intro (own_below O7.out.1 hb8) (bthen O7.out.2 hb8))
      have HL1 : Hid ((bs (Mast.layL f)).length = 64 ∧ ∀ u ∈ bs (Mast.layL f), u.oneCell' = true) := Lib.hid ⟨by rw [bs_length]; exact Mast.layL_length _, fun u hu => bs_one _ _ hu⟩
      clear hb8 O7
      generalize bs (Mast.layL f) = L1 at *
      go_wp2_with (first
        | ((with_reducible refine wpList_pg_slice1 (o := ⟨some 34, .buildSlice _ _ _, _, _, _, _⟩) rfl _ rfl L1 HL1.out.1 rfl ?_))
        | (at_builtin; go_loud (refine wpList_append_new _ rfl _ _ _ rfl w.heap.size 43 _ 64 64 elemP v1 _ _ rfl L1 rfl O8.out.1 HL1.out.1 HL1.out.2 (by have := HP.out; simp only [maxLen]; omega) (by have := HP.out; omega) O8.out.2.size ?_); intro v2 w9 hown9 hg9; have O9 := Lib.hid (And.intro hown9 (O8.out.2.grown hg9 O8.out.2.size fun g hg => (O8.out.1.lt g hg).1)); clear hown9 hg9)
        | fail)
      go_ret
      refine ⟨v2, rfl, ?_, O9.out.2⟩
      rw [HPn.out, HSe.out, show P + 2 = 1 + P + 1 by omega]
      exact O9.out.1
end Go.Proofs.YtgnpohkippegpaaGreat

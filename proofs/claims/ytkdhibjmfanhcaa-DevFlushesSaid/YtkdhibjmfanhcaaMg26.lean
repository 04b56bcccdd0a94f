/-
  DevZ
-/
import Derived.Test.YtkdhibjmfanhcaaMg25
/-
  Package dev: something that is done with a device.
-/
namespace Go.Proofs.Ytkdhibjmfanhcaa
open Go.RowKit Geom Zone Dev
set_option linter.unusedVariables false

namespace Dev
/-- an act, plainly -/
structure AD where
  k : Int
  a : Pl
  p : List Int
  n : Int
  keepA : Option Addr
  kn : Nat
  kc : Nat
  keep : List Int
  soft0 : Int
  tear : Int
def acs (x : AD) : List Value := .int .u8 x.k :: .int .i64 x.a.1 :: .int .i64 x.a.2 :: (bs x.p ++ [.int .i64 x.n, .slice x.keepA x.kn x.kc, .int .u64 x.soft0, .int .i64 x.tear])
def armD (D : Dv) (n : Int) : Dv := if D.down = true then D else { D with armed := max n 0, down := (n == 0) }
def playD (D : Dv) (x : AD) : Int × Dv :=
  if x.k % 9 = 4 then resetD D x.a.1 else if x.k % 9 = 5 then finishD D x.a.1 else if x.k % 9 = 6 then flushD D else if x.k % 9 = 7 then (0, armD D x.n)
  else if x.k % 9 = 8 then (0, crashD D x.keep x.soft0 x.tear) else writeD D (x.a.1, x.a.2, x.p)
/-- what an act's parts keep to -/
structure AOk (T : Nat → Prop) (w : World) (x : AD) : Prop where
  k0 : 0 ≤ x.k
  k1 : x.k < 256
  a1 : W64 x.a.1
  a2 : W64 x.a.2
  p : x.p.length = 64
  n : W64 x.n
  kr : Rd w w.heap.size x.keepA (ints x.keep)
  kl : x.keep.length = x.kn
  cap : x.kn ≤ x.kc
  mc : x.kc ≤ maxLen
  k64 : ∀ y ∈ x.keep, W64 y
  kT : ∀ ad, x.keepA = some ad → ints x.keep ≠ [] → ¬ T ad.block
end Dev
theorem acs_length {x : AD} (h : x.p.length = 64) : (acs x).length = 71 := by simp [acs, bs_length, h]
theorem acs_page {x : AD} {j : Nat} {v : Value} (h : x.p.length = 64) (hj : (bs x.p)[j]? = some v) : (acs x)[j + 3]? = some v := by
  unfold acs
  rw [List.getElem?_cons_succ, List.getElem?_cons_succ, List.getElem?_cons_succ, List.getElem?_append_left ((List.getElem?_eq_some_iff.1 hj).1)]
  exact hj
theorem acs_tail {x : AD} {j : Nat} (h : x.p.length = 64) : (acs x)[67 + j]? = [Value.int .i64 x.n, .slice x.keepA x.kn x.kc, .int .u64 x.soft0, .int .i64 x.tear][j]? := by
  unfold acs
  rw [show 67 + j = (64 + j) + 1 + 1 + 1 by omega, List.getElem?_cons_succ, List.getElem?_cons_succ, List.getElem?_cons_succ, List.getElem?_append_right (by rw [bs_length, h]; omega), bs_length, h]
  congr 1
  omega
section
variable {w : World} {d : Nat} {T : Nat → Prop} {D : Dv}
theorem arm_any (n : Int) (hI : DevIs T w d D) :
    Calls Try.prog 10 #[dp d, .int .i64 n] w fun x w' => x = .returned (.tuple #[]) ∧ DevIs T w' d (armD D n) ∧ Fr T w w' := by
  obtain ⟨gz, cz, lb, cv, nb, hb, h⟩ := id hI
  by_cases hd : D.down = true
  · rw [hd] at hb
    exact (arm_down n hb).mono fun e w' ⟨h1, h2⟩ => ⟨h1, by rw [show armD D n = D from if_pos hd, ← h2]; exact hI, h2 ▸ Fr.refl _⟩
  · have hd' : D.down = false := by simpa using hd
    rw [hd'] at hb
    exact (arm_up n hb).mono fun e w' ⟨h1, h2⟩ => ⟨h1, by rw [show armD D n = { D with armed := max n 0, down := (n == 0) } from if_neg hd, ← h2]; exact hI.set9_10 _ _, h2 ▸ ((Fr.refl _).setCell _ _ hI.at).setCell _ _ hI.at⟩

theorem cell_of_list {w : World} {b k : Nat} {t : TypeId} {cs : List Value} {v : Value} (h : Box w b t cs) (hk : cs[k]? = some v) : w.cell? ⟨b, k, none⟩ = some v := by
  rw [h.cell k]
  exact hk
set_option maxRecDepth 100000 in
set_option maxHeartbeats 4000000 in
theorem play_flush (x : AD) (hx : AOk T w x) (hk : x.k % 9 = 6) (hT : ∀ k, w.heap.size ≤ k → T k) (hO : DvOk D) (hI : DevIs T w d D) :
    Calls Try.prog 8 #[dp d, .agg (acs x).toArray] w fun e w' => e = .returned (.int .i64 (flushD D).1) ∧ DevIs T w' d (flushD D).2 ∧ Fr T w w' := by
  obtain ⟨m, hm, hsz⟩ := big_size (P := Try.prog) (t := 44) (s := 71) (by kernel_rfl)
  obtain ⟨w1, hw1⟩ : ∃ w1, w1 = w.alloc (.cells (acs x).toArray 44) := ⟨_, rfl⟩
  have hB1 : Below w.heap.size w w1 := by rw [hw1]; exact (Below.refl _ _).alloc (Nat.le_refl _) _
  have x0 : Box w1 w.heap.size 44 (acs x) := by rw [hw1]; exact Box.new w _ _
  have hT1 : ∀ k, w1.heap.size ≤ k → T k := fun k hk => hT k (Nat.le_trans hB1.size hk)
  have hI1 := hI.below hB1
  have c0 : w1.cell? ⟨w.heap.size, 0, none⟩ = some (.int .u8 x.k) := x0.cell 0
  have HF := Lib.hid (flush_any (w := w1) (d := d) (T := T) (D := D) hT1 hO hI1)
  have hk0 := hx.k0
  have hk1 := hx.k1
  have hB := Lib.hid hB1
  have hm0 : ¬ m = 0 := by omega
  clear hO hI hx x0 hT1 hI1 hT hB1 hm
  generalize flushD D = r at HF ⊢
  go_enter Try.func8, Try.ntmps8
  rw [hw1] at c0
  go_wp2_with fail
  rw [← hw1]
  clear hw1 c0
  refine HF.out.mono ?_
  rintro e w2 ⟨rfl, h1, h2⟩
  have H := Lib.hid (And.intro h1 ((Fr.of_below hB.out).trans h2))
  clear h1 h2
  go_wp2
  go_ret
  exact ⟨rfl, H.out⟩
set_option maxRecDepth 100000 in
set_option maxHeartbeats 4000000 in
theorem play_reset (x : AD) (hx : AOk T w x) (hk : x.k % 9 = 4) (hT : ∀ k, w.heap.size ≤ k → T k) (hO : DvOk D) (hI : DevIs T w d D) :
    Calls Try.prog 8 #[dp d, .agg (acs x).toArray] w fun e w' => e = .returned (.int .i64 (resetD D x.a.1).1) ∧ DevIs T w' d (resetD D x.a.1).2 ∧ Fr T w w' := by
  obtain ⟨m, hm, hsz⟩ := big_size (P := Try.prog) (t := 44) (s := 71) (by kernel_rfl)
  obtain ⟨w1, hw1⟩ : ∃ w1, w1 = w.alloc (.cells (acs x).toArray 44) := ⟨_, rfl⟩
  have hB1 : Below w.heap.size w w1 := by rw [hw1]; exact (Below.refl _ _).alloc (Nat.le_refl _) _
  have x0 : Box w1 w.heap.size 44 (acs x) := by rw [hw1]; exact Box.new w _ _
  have hT1 : ∀ k, w1.heap.size ≤ k → T k := fun k hk => hT k (Nat.le_trans hB1.size hk)
  have hI1 := hI.below hB1
  have c0 : w1.cell? ⟨w.heap.size, 0, none⟩ = some (.int .u8 x.k) := x0.cell 0
  have c1 : w1.cell? ⟨w.heap.size, 1, none⟩ = some (.int .i64 x.a.1) := x0.cell 1
  have HF := Lib.hid (dreset_any (w := w1) (d := d) (T := T) (D := D) x.a.1 hx.a1 hT1 hO hI1)
  have hk0 := hx.k0
  have hk1 := hx.k1
  have hB := Lib.hid hB1
  have hm0 : ¬ m = 0 := by omega
  clear hO hI hx x0 hT1 hI1 hT hB1 hm
  generalize resetD D x.a.1 = r at HF ⊢
  go_enter Try.func8, Try.ntmps8
  rw [hw1] at c0 c1
  go_wp2_with fail
  rw [← hw1]
  clear hw1 c0 c1
  refine HF.out.mono ?_
  rintro e w2 ⟨rfl, h1, h2⟩
  have H := Lib.hid (And.intro h1 ((Fr.of_below hB.out).trans h2))
  clear h1 h2
  go_wp2
  go_ret
  exact ⟨rfl, H.out⟩
set_option maxRecDepth 100000 in
set_option maxHeartbeats 4000000 in
theorem play_finish (x : AD) (hx : AOk T w x) (hk : x.k % 9 = 5) (hT : ∀ k, w.heap.size ≤ k → T k) (hO : DvOk D) (hI : DevIs T w d D) :
    Calls Try.prog 8 #[dp d, .agg (acs x).toArray] w fun e w' => e = .returned (.int .i64 (finishD D x.a.1).1) ∧ DevIs T w' d (finishD D x.a.1).2 ∧ Fr T w w' := by
  obtain ⟨m, hm, hsz⟩ := big_size (P := Try.prog) (t := 44) (s := 71) (by kernel_rfl)
  obtain ⟨w1, hw1⟩ : ∃ w1, w1 = w.alloc (.cells (acs x).toArray 44) := ⟨_, rfl⟩
  have hB1 : Below w.heap.size w w1 := by rw [hw1]; exact (Below.refl _ _).alloc (Nat.le_refl _) _
  have x0 : Box w1 w.heap.size 44 (acs x) := by rw [hw1]; exact Box.new w _ _
  have hT1 : ∀ k, w1.heap.size ≤ k → T k := fun k hk => hT k (Nat.le_trans hB1.size hk)
  have hI1 := hI.below hB1
  have c0 : w1.cell? ⟨w.heap.size, 0, none⟩ = some (.int .u8 x.k) := x0.cell 0
  have c1 : w1.cell? ⟨w.heap.size, 1, none⟩ = some (.int .i64 x.a.1) := x0.cell 1
  have HF := Lib.hid (dfinish_any (w := w1) (d := d) (T := T) (D := D) x.a.1 hT1 hO hI1)
  have hk0 := hx.k0
  have hk1 := hx.k1
  have hB := Lib.hid hB1
  have hm0 : ¬ m = 0 := by omega
  clear hO hI hx x0 hT1 hI1 hT hB1 hm
  generalize finishD D x.a.1 = r at HF ⊢
  go_enter Try.func8, Try.ntmps8
  rw [hw1] at c0 c1
  go_wp2_with fail
  rw [← hw1]
  clear hw1 c0 c1
  refine HF.out.mono ?_
  rintro e w2 ⟨rfl, h1, h2⟩
  have H := Lib.hid (And.intro h1 ((Fr.of_below hB.out).trans h2))
  clear h1 h2
  go_wp2
  go_ret
  exact ⟨rfl, H.out⟩
set_option maxRecDepth 100000 in
set_option maxHeartbeats 4000000 in
theorem play_arm (x : AD) (hx : AOk T w x) (hk : x.k % 9 = 7) (hT : ∀ k, w.heap.size ≤ k → T k) (hO : DvOk D) (hI : DevIs T w d D) :
    Calls Try.prog 8 #[dp d, .agg (acs x).toArray] w fun e w' => e = .returned (.int .i64 0) ∧ DevIs T w' d (armD D x.n) ∧ Fr T w w' := by
  obtain ⟨m, hm, hsz⟩ := big_size (P := Try.prog) (t := 44) (s := 71) (by kernel_rfl)
  obtain ⟨w1, hw1⟩ : ∃ w1, w1 = w.alloc (.cells (acs x).toArray 44) := ⟨_, rfl⟩
  have hB1 : Below w.heap.size w w1 := by rw [hw1]; exact (Below.refl _ _).alloc (Nat.le_refl _) _
  have x0 : Box w1 w.heap.size 44 (acs x) := by rw [hw1]; exact Box.new w _ _
  have hT1 : ∀ k, w1.heap.size ≤ k → T k := fun k hk => hT k (Nat.le_trans hB1.size hk)
  have hI1 := hI.below hB1
  have c0 : w1.cell? ⟨w.heap.size, 0, none⟩ = some (.int .u8 x.k) := x0.cell 0
  have c67 : w1.cell? ⟨w.heap.size, 67, none⟩ = some (.int .i64 x.n) := cell_of_list x0 ((acs_tail (j := 0) hx.p).trans rfl)
  have HF := Lib.hid (arm_any (w := w1) (d := d) (T := T) (D := D) x.n hI1)
  have hk0 := hx.k0
  have hk1 := hx.k1
  have hB := Lib.hid hB1
  have hm0 : ¬ m = 0 := by omega
  clear hO hI hx x0 hT1 hI1 hT hB1 hm
  generalize armD D x.n = r at HF ⊢
  go_enter Try.func8, Try.ntmps8
  rw [hw1] at c0 c67
  go_wp2_with fail
  rw [← hw1]
  clear hw1 c0 c67
  refine HF.out.mono ?_
  rintro e w2 ⟨rfl, h1, h2⟩
  have H := Lib.hid (And.intro h1 ((Fr.of_below hB.out).trans h2))
  clear h1 h2
  go_wp2
  go_ret
  exact ⟨rfl, H.out⟩
set_option maxRecDepth 100000 in
set_option maxHeartbeats 4000000 in
theorem play_crash (x : AD) (hx : AOk T w x) (hk : x.k % 9 = 8) (hT : ∀ k, w.heap.size ≤ k → T k) (hO : DvOk D) (hI : DevIs T w d D) :
    Calls Try.prog 8 #[dp d, .agg (acs x).toArray] w fun e w' => e = .returned (.int .i64 0) ∧ DevIs T w' d (crashD D x.keep x.soft0 x.tear) ∧ Fr T w w' := by
  obtain ⟨m, hm, hsz⟩ := big_size (P := Try.prog) (t := 44) (s := 71) (by kernel_rfl)
  obtain ⟨w1, hw1⟩ : ∃ w1, w1 = w.alloc (.cells (acs x).toArray 44) := ⟨_, rfl⟩
  have hB1 : Below w.heap.size w w1 := by rw [hw1]; exact (Below.refl _ _).alloc (Nat.le_refl _) _
  have x0 : Box w1 w.heap.size 44 (acs x) := by rw [hw1]; exact Box.new w _ _
  have hT1 : ∀ k, w1.heap.size ≤ k → T k := fun k hk => hT k (Nat.le_trans hB1.size hk)
  have hI1 := hI.below hB1
  have c0 : w1.cell? ⟨w.heap.size, 0, none⟩ = some (.int .u8 x.k) := x0.cell 0
  have c68 : w1.cell? ⟨w.heap.size, 68, none⟩ = some (.slice x.keepA x.kn x.kc) := cell_of_list x0 ((acs_tail (j := 1) hx.p).trans rfl)
  have c69 : w1.cell? ⟨w.heap.size, 69, none⟩ = some (.int .u64 x.soft0) := cell_of_list x0 ((acs_tail (j := 2) hx.p).trans rfl)
  have c70 : w1.cell? ⟨w.heap.size, 70, none⟩ = some (.int .i64 x.tear) := cell_of_list x0 ((acs_tail (j := 3) hx.p).trans rfl)
  have HF := Lib.hid (crash_any (w := w1) (d := d) T D x.keepA x.kn x.kc x.keep x.soft0 x.tear hT1 hO hI1 ((hx.kr.below hB1).more hB1.size) hx.kl hx.cap hx.mc hx.k64 hx.kT)
  have hk0 := hx.k0
  have hk1 := hx.k1
  have hB := Lib.hid hB1
  have hm0 : ¬ m = 0 := by omega
  clear hO hI hx x0 hT1 hI1 hT hB1 hm
  generalize crashD D x.keep x.soft0 x.tear = r at HF ⊢
  go_enter Try.func8, Try.ntmps8
  rw [hw1] at c0 c68 c69 c70
  go_wp2_with fail
  rw [← hw1]
  clear hw1 c0 c68 c69 c70
  refine HF.out.mono ?_
  rintro e w2 ⟨rfl, h1, h2⟩
  have H := Lib.hid (And.intro h1 ((Fr.of_below hB.out).trans h2))
  clear h1 h2
  go_wp2
  go_ret
  exact ⟨rfl, H.out⟩
set_option maxRecDepth 100000 in
set_option maxHeartbeats 4000000 in
theorem play_write (x : AD) (hx : AOk T w x) (hk : x.k % 9 < 4) (hc : D.cache.length < 100000) (hT : ∀ k, w.heap.size ≤ k → T k) (hO : DvOk D) (hI : DevIs T w d D) :
    Calls Try.prog 8 #[dp d, .agg (acs x).toArray] w fun e w' => e = .returned (.int .i64 (writeD D (x.a.1, x.a.2, x.p)).1) ∧ DevIs T w' d (writeD D (x.a.1, x.a.2, x.p)).2 ∧ Fr T w w' := by
  obtain ⟨m, hm, hsz⟩ := big_size (P := Try.prog) (t := 44) (s := 71) (by kernel_rfl)
  obtain ⟨w1, hw1⟩ : ∃ w1, w1 = w.alloc (.cells (acs x).toArray 44) := ⟨_, rfl⟩
  have hB1 : Below w.heap.size w w1 := by rw [hw1]; exact (Below.refl _ _).alloc (Nat.le_refl _) _
  have x0 : Box w1 w.heap.size 44 (acs x) := by rw [hw1]; exact Box.new w _ _
  have hT1 : ∀ k, w1.heap.size ≤ k → T k := fun k hk => hT k (Nat.le_trans hB1.size hk)
  have hI1 := hI.below hB1
  have c0 : w1.cell? ⟨w.heap.size, 0, none⟩ = some (.int .u8 x.k) := x0.cell 0
  have c1 : w1.cell? ⟨w.heap.size, 1, none⟩ = some (.int .i64 x.a.1) := x0.cell 1
  have c2 : w1.cell? ⟨w.heap.size, 2, none⟩ = some (.int .i64 x.a.2) := x0.cell 2
  obtain ⟨m2, hm2, hsz2⟩ := big_size (P := Try.prog) (t := 42) (s := 64) (by kernel_rfl)
  have pl : (loadCellsFrom ⟨w.heap.size, 3, none⟩ 0 m2 #[]).run Try.prog (w.alloc (.cells (acs x).toArray 44)) = .ok (bs x.p).toArray (w.alloc (.cells (acs x).toArray 44)) :=
    big_load0 Try.prog w.heap.size 3 (bs x.p) m2 (by rw [bs_length, hx.p, hm2]) _ fun j v hj => by
      rw [← hw1, Nat.add_comm]
      exact cell_of_list x0 (acs_page hx.p hj)
  have q4 : (x.k % 9 == 4) = false := by rw [beq_eq_false_iff_ne]; omega
  have q5 : (x.k % 9 == 5) = false := by rw [beq_eq_false_iff_ne]; omega
  have q6 : (x.k % 9 == 6) = false := by rw [beq_eq_false_iff_ne]; omega
  have q7 : (x.k % 9 == 7) = false := by rw [beq_eq_false_iff_ne]; omega
  have q8 : (x.k % 9 == 8) = false := by rw [beq_eq_false_iff_ne]; omega
  have HF := Lib.hid (write_any (w := w1) (d := d) (T := T) (D := D) (x.a.1, x.a.2, x.p) hx.p ⟨hx.a1, hx.a2⟩ hT1 hO hc hI1)
  have hk0 := hx.k0
  have hk1 := hx.k1
  have hB := Lib.hid hB1
  have hm0 : ¬ m = 0 := by omega
  have hm20 : ¬ m2 = 0 := by omega
  clear hO hI hx x0 hT1 hI1 hT hB1 hm hm2
  generalize writeD D (x.a.1, x.a.2, x.p) = r at HF ⊢
  go_enter Try.func8, Try.ntmps8
  rw [hw1] at c0 c1 c2
  go_wp2_with fail
  rw [← hw1]
  clear hw1 c0 c1 c2 pl
  refine HF.out.mono ?_
  rintro e w2 ⟨rfl, h1, h2⟩
  have H := Lib.hid (And.intro h1 ((Fr.of_below hB.out).trans h2))
  clear h1 h2
  go_wp2
  go_ret
  exact ⟨rfl, H.out⟩
theorem play_any (x : AD) (hx : AOk T w x) (hc : D.cache.length < 100000) (hT : ∀ k, w.heap.size ≤ k → T k) (hO : DvOk D) (hI : DevIs T w d D) :
    Calls Try.prog 8 #[dp d, .agg (acs x).toArray] w fun e w' => e = .returned (.int .i64 (playD D x).1) ∧ DevIs T w' d (playD D x).2 ∧ Fr T w w' := by
  unfold playD
  split
  · exact play_reset x hx (by assumption) hT hO hI
  split
  · exact play_finish x hx (by assumption) hT hO hI
  split
  · exact play_flush x hx (by assumption) hT hO hI
  split
  · exact play_arm x hx (by assumption) hT hO hI
  split
  · exact play_crash x hx (by assumption) hT hO hI
  · exact play_write x hx (by have := hx.k0; omega) hc hT hO hI
end
end Go.Proofs.Ytkdhibjmfanhcaa

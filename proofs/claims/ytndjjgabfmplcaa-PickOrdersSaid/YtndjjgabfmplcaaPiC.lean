/-
  Package pick: what a candidate is worth; which one is better.
-/
import Derived.Test.YtndjjgabfmplcaaPiB
import Derived.WalkSpells
import Derived.WalkLawsBesides
import Derived.Deep.QuietTactic
import Derived.BigQuiet
namespace Go.Proofs.Ytndjjgabfmplcaa
open Go.RowKit Pick
set_option linter.unusedVariables false

theorem gain_any (s : Int) (c : Cd) (w : World) (hs : Size s) (h : May s c) :
    Calls Try.prog 17 #[.agg (kcs c).toArray, .int .i64 s] w fun e w' => e = .returned (.int .u64 (gain s c)) ∧ Below w.heap.size w w' := by
  have hb := gain_bd hs h
  have HG := Lib.hid (show gain s c = (s - c.l) * (c.a + 1) from rfl)
  obtain ⟨cz, cl, ca⟩ := c
  obtain ⟨s1, s2⟩ := hs
  obtain ⟨⟨h1, h2⟩, h3, h4⟩ := h
  simp only at h1 h2 h3 h4
  have k1 := IntWalk.i64_in (s - cl) (by omega)
  have k2 := IntWalk.u64_in (s - cl) (by omega)
  have k3 := IntWalk.u64_in ca (by omega)
  have k4 := IntWalk.u64_in (ca + 1) (by omega)
  have k5 := IntWalk.u64_in ((s - cl) * (ca + 1)) (by rw [← HG.out]; omega)
  clear hb h1 h2 h3 h4 s1 s2
  go_enter Try.func17, Try.ntmps17
  go_wp2
  go_ret
  exact ⟨ret_int HG.out, (Below.refl _ _).alloc (Nat.le_refl _) _⟩
theorem cost_any (s : Int) (c : Cd) (w : World) (hs : Size s) (h : Okc s c) :
    Calls Try.prog 18 #[.agg (kcs c).toArray, .int .i64 s] w fun e w' => e = .returned (.int .u64 (cost s c)) ∧ Below w.heap.size w w' := by
  have HG := Lib.hid (show cost s c = s + c.l from rfl)
  obtain ⟨cz, cl, ca⟩ := c
  obtain ⟨s1, s2⟩ := hs
  obtain ⟨h1, h2⟩ := h
  simp only at h1 h2
  have k1 := IntWalk.i64_in (s + cl) (by omega)
  have k2 := IntWalk.u64_in (s + cl) (by omega)
  clear h1 h2 s1 s2
  go_enter Try.func18, Try.ntmps18
  go_wp2
  go_ret
  exact ⟨ret_int HG.out, (Below.refl _ _).alloc (Nat.le_refl _) _⟩
theorem maybe_any (s : Int) (c : Cd) (w : World) :
    Calls Try.prog 16 #[.agg (kcs c).toArray, .int .i64 s] w fun e w' => e = .returned (.bool (decide (Okc s c))) ∧ Below w.heap.size w w' := by
  obtain ⟨cz, cl, ca⟩ := c
  by_cases h1 : 0 ≤ cl
  · by_cases h2 : cl < s
    · have HD := Lib.hid (show decide (Okc s ⟨cz, cl, ca⟩) = true from decide_eq_true ⟨h1, h2⟩)
      go_enter Try.func16, Try.ntmps16
      go_wp2
      go_ret
      exact ⟨ret_bool HD.out, (Below.refl _ _).alloc (Nat.le_refl _) _⟩
    · have HD := Lib.hid (show decide (Okc s ⟨cz, cl, ca⟩) = false from decide_eq_false fun h => h2 h.2)
      go_enter Try.func16, Try.ntmps16
      go_wp2
      go_ret
      exact ⟨ret_bool HD.out, (Below.refl _ _).alloc (Nat.le_refl _) _⟩
  · have HD := Lib.hid (show decide (Okc s ⟨cz, cl, ca⟩) = false from decide_eq_false fun h => h1 h.1)
    go_enter Try.func16, Try.ntmps16
    go_wp2
    go_ret
    exact ⟨ret_bool HD.out, (Below.refl _ _).alloc (Nat.le_refl _) _⟩
/-- two candidates in variables of their own -/
def TwoK (W w : World) (x y : Nat) (a b : Cd) : Prop := Box w x 23 (kcs a) ∧ Box w y 23 (kcs b) ∧ Below W.heap.size W w
theorem TwoK.on {W w w' : World} {x y : Nat} {a b : Cd} (h : TwoK W w x y a b) (hb : Below w.heap.size w w') : TwoK W w' x y a b := ⟨h.1.on hb, h.2.1.on hb, h.2.2.trans (hb.mono h.2.2.size)⟩
theorem TwoK.drew {W w : World} {x y : Nat} {a b : Cd} (h : TwoK W w x y a b) : TwoK W w.drew x y a b := ⟨h.1.same rfl, h.2.1.same rfl, h.2.2.drew⟩
theorem TwoK.new (w : World) (a b : Cd) : TwoK w ((w.alloc (.cells (kcs a).toArray 23)).alloc (.cells (kcs b).toArray 23)) w.heap.size (w.heap.size + 1) a b := by
  have e : (w.alloc (.cells (kcs a).toArray 23)).heap.size = w.heap.size + 1 := by simp
  have h2 := Box.new (w.alloc (.cells (kcs a).toArray 23)) 23 (kcs b)
  rw [e] at h2
  exact ⟨(Box.new w _ _).on ((Below.refl _ _).alloc (Nat.le_refl _) _), h2, ((Below.refl _ _).alloc (Nat.le_refl _) _).alloc (by simp) _⟩
abbrev kv (z l a : Int) : Value := .agg #[.int .i64 z, .int .i64 l, .int .i64 a]
set_option maxRecDepth 100000 in
set_option maxHeartbeats 4000000 in
theorem weights_any (s p : Int) (a b : Cd) (w : World) (hs : Size s) (ha : May s a) (hb : May s b) :
    Calls Try.prog 15 #[.agg (kcs a).toArray, .agg (kcs b).toArray, .int .i64 s, .int .i64 p] w fun e w' => e = .returned (.tuple #[.int .u64 (wgt s p a b), .int .u64 (wgt s p b a)]) ∧ Below w.heap.size w w' := by
  obtain ⟨az, al, aa⟩ := a
  obtain ⟨bz, bl, ba⟩ := b
  have HT := Lib.hid (TwoK.new w ⟨az, al, aa⟩ ⟨bz, bl, ba⟩)
  by_cases hp : p = 1
  · have HGa : Hid (∀ w, Calls Try.prog 17 #[kv az al aa, .int .i64 s] w fun e w' => e = .returned (.int .u64 (gain s ⟨az, al, aa⟩)) ∧ Below w.heap.size w w') := Lib.hid fun w => gain_any s ⟨az, al, aa⟩ w hs ha
    have HGb : Hid (∀ w, Calls Try.prog 17 #[kv bz bl ba, .int .i64 s] w fun e w' => e = .returned (.int .u64 (gain s ⟨bz, bl, ba⟩)) ∧ Below w.heap.size w w') := Lib.hid fun w => gain_any s ⟨bz, bl, ba⟩ w hs hb
    have HCa : Hid (∀ w, Calls Try.prog 18 #[kv az al aa, .int .i64 s] w fun e w' => e = .returned (.int .u64 (cost s ⟨az, al, aa⟩)) ∧ Below w.heap.size w w') := Lib.hid fun w => cost_any s ⟨az, al, aa⟩ w hs ha.1
    have HCb : Hid (∀ w, Calls Try.prog 18 #[kv bz bl ba, .int .i64 s] w fun e w' => e = .returned (.int .u64 (cost s ⟨bz, bl, ba⟩)) ∧ Below w.heap.size w w') := Lib.hid fun w => cost_any s ⟨bz, bl, ba⟩ w hs hb.1
    have HW := Lib.hid (show wgt s p ⟨az, al, aa⟩ ⟨bz, bl, ba⟩ = gain s ⟨az, al, aa⟩ * cost s ⟨bz, bl, ba⟩ ∧ wgt s p ⟨bz, bl, ba⟩ ⟨az, al, aa⟩ = gain s ⟨bz, bl, ba⟩ * cost s ⟨az, al, aa⟩ from ⟨if_pos hp, if_pos hp⟩)
    have k1 := IntWalk.u64_in (gain s ⟨az, al, aa⟩ * cost s ⟨bz, bl, ba⟩) (by have := prod_bd hs ha hb; omega)
    have k2 := IntWalk.u64_in (gain s ⟨bz, bl, ba⟩ * cost s ⟨az, al, aa⟩) (by have := prod_bd hs hb ha; omega)
    clear hs ha hb
    generalize gain s ⟨az, al, aa⟩ = ga at *
    generalize gain s ⟨bz, bl, ba⟩ = gb at *
    generalize cost s ⟨az, al, aa⟩ = ca at *
    generalize cost s ⟨bz, bl, ba⟩ = cb at *
    subst hp
    go_enter Try.func15, Try.ntmps15
    go_wp2
    generalize World.alloc _ _ = w0 at HT ⊢
    refine wp_region_class (fun w' => TwoK w w' w.heap.size (w.heap.size + 1) ⟨az, al, aa⟩ ⟨bz, bl, ba⟩) (by kernel_rfl) (by kernel_rfl) HT.out.drew ?_
    intro X hX f hf hg
    have a0 : ∀ x, (f x).cell? ⟨w.heap.size, 0, none⟩ = some (.int .i64 az) := fun x => (hf x).1.kd.1
    have a1 : ∀ x, (f x).cell? ⟨w.heap.size, 1, none⟩ = some (.int .i64 al) := fun x => (hf x).1.kd.2.1
    have a2 : ∀ x, (f x).cell? ⟨w.heap.size, 2, none⟩ = some (.int .i64 aa) := fun x => (hf x).1.kd.2.2
    have b0 : ∀ x, (f x).cell? ⟨w.heap.size + 1, 0, none⟩ = some (.int .i64 bz) := fun x => (hf x).2.1.kd.1
    have b1 : ∀ x, (f x).cell? ⟨w.heap.size + 1, 1, none⟩ = some (.int .i64 bl) := fun x => (hf x).2.1.kd.2.1
    have b2 : ∀ x, (f x).cell? ⟨w.heap.size + 1, 2, none⟩ = some (.int .i64 ba) := fun x => (hf x).2.1.kd.2.2
    have Hf := Lib.hid hf
    have Hg := Lib.hid hg
    clear hf hg
    repeat (go_big_quiet_step (first
      | (go_at_call 17; with_reducible (first | (exact calls_class (HGa.out _) (fun _ hb => Hg.out _ ((Hf.out _).on hb))) | (exact calls_class (HGb.out _) (fun _ hb => Hg.out _ ((Hf.out _).on hb)))))
      | (go_at_call 18; with_reducible (first | (exact calls_class (HCa.out _) (fun _ hb => Hg.out _ ((Hf.out _).on hb))) | (exact calls_class (HCb.out _) (fun _ hb => Hg.out _ ((Hf.out _).on hb)))))))
    refine wpQuiet_nil ?_
    rintro _ ⟨x, rfl⟩
    have hx := Hf.out x
    clear a0 a1 a2 b0 b1 b2 Hf Hg
    generalize f x = wx at hx ⊢
    clear x f hX
    go_wp2
    exact bodyPost_ret (v := .tuple #[.int .u64 (ga * cb), .int .u64 (gb * ca)]) (by simp [results, Try.results15, go_sem]) rfl ⟨by rw [HW.out.1, HW.out.2], hx.2.2⟩
  · have HW := Lib.hid (show wgt s p ⟨az, al, aa⟩ ⟨bz, bl, ba⟩ = bl ∧ wgt s p ⟨bz, bl, ba⟩ ⟨az, al, aa⟩ = al from ⟨if_neg hp, if_neg hp⟩)
    have k1 := IntWalk.u64_in al (by have := ha.1; unfold Okc Size at *; simp only at *; omega)
    have k2 := IntWalk.u64_in bl (by have := hb.1; unfold Okc Size at *; simp only at *; omega)
    have hpb : (p != 1) = true := by simp [hp]
    clear hs ha hb hp
    go_enter Try.func15, Try.ntmps15
    go_wp2
    go_quiet (fail)
    go_wp2
    exact bodyPost_ret (v := .tuple #[.int .u64 bl, .int .u64 al]) (by simp [results, Try.results15, go_sem]) rfl ⟨by rw [HW.out.1, HW.out.2], below_draws HT.out.2.2 _⟩
theorem bet_ne {s p : Int} {a b : Cd} (h : ¬ wgt s p a b = wgt s p b a) : decide (Bet s p a b) = decide (wgt s p b a < wgt s p a b) := by
  rw [decide_eq_decide]
  unfold Bet
  omega
theorem bet_eq {s p : Int} {a b : Cd} (h : wgt s p a b = wgt s p b a) : decide (Bet s p a b) = decide (a.z < b.z) := by
  rw [decide_eq_decide]
  unfold Bet
  omega
set_option maxRecDepth 100000 in
set_option maxHeartbeats 4000000 in
theorem pbetter_any (s p : Int) (a b : Cd) (w : World) (hs : Size s) (ha : May s a) (hb : May s b) :
    Calls Try.prog 10 #[.agg (kcs a).toArray, .agg (kcs b).toArray, .int .i64 s, .int .i64 p] w fun e w' => e = .returned (.bool (decide (Bet s p a b))) ∧ Below w.heap.size w w' := by
  obtain ⟨az, al, aa⟩ := a
  obtain ⟨bz, bl, ba⟩ := b
  have HT := Lib.hid (TwoK.new w ⟨az, al, aa⟩ ⟨bz, bl, ba⟩)
  have HW : Hid (∀ w, Calls Try.prog 15 #[kv az al aa, kv bz bl ba, .int .i64 s, .int .i64 p] w fun e w' => e = .returned (.tuple #[.int .u64 (wgt s p ⟨az, al, aa⟩ ⟨bz, bl, ba⟩), .int .u64 (wgt s p ⟨bz, bl, ba⟩ ⟨az, al, aa⟩)]) ∧ Below w.heap.size w w') := Lib.hid fun w => weights_any s p ⟨az, al, aa⟩ ⟨bz, bl, ba⟩ w hs ha hb
  have HE := Lib.hid (bet_eq (s := s) (p := p) (a := ⟨az, al, aa⟩) (b := ⟨bz, bl, ba⟩))
  have HN := Lib.hid (bet_ne (s := s) (p := p) (a := ⟨az, al, aa⟩) (b := ⟨bz, bl, ba⟩))
  clear hs ha hb
  generalize decide (Bet s p ⟨az, al, aa⟩ ⟨bz, bl, ba⟩) = bet at *
  generalize wgt s p ⟨az, al, aa⟩ ⟨bz, bl, ba⟩ = x at *
  generalize wgt s p ⟨bz, bl, ba⟩ ⟨az, al, aa⟩ = y at *
  go_enter Try.func10, Try.ntmps10
  go_wp2_with fail
  generalize World.alloc _ _ = w0 at HT ⊢
  refine (HW.out _).mono ?_
  rintro e w1 ⟨rfl, hb⟩
  have HT1 := Lib.hid (HT.out.on hb)
  clear hb HT HW
  by_cases hxy : x = y
  · have hq : (x != y) = false := by simp [hxy]
    have HR := Lib.hid (HE.out hxy)
    obtain ⟨a0, a1, a2⟩ := HT1.out.1.kd
    obtain ⟨b0, b1, b2⟩ := HT1.out.2.1.kd
    clear hxy HE HN
    go_wp2
    go_ret
    exact ⟨ret_bool HR.out, HT1.out.2.2⟩
  · have hq : (x != y) = true := by simp [hxy]
    have HR := Lib.hid (HN.out hxy)
    clear hxy HE HN
    go_wp2
    go_ret
    exact ⟨ret_bool HR.out, HT1.out.2.2⟩
end Go.Proofs.Ytndjjgabfmplcaa

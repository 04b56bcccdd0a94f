/-
  Package pick, as plain mathematics: which candidate is better, and the best one.
-/
import Derived.WalkSpells
namespace Go.Proofs.Ytndjjgabfmplcaa
set_option linter.unusedVariables false

namespace Pick
/-- a candidate -/
structure Cd where
  z : Int
  l : Int
  a : Int
/-- it may be chosen -/
def Okc (s : Int) (c : Cd) : Prop := 0 ≤ c.l ∧ c.l < s
instance (s : Int) (c : Cd) : Decidable (Okc s c) := inferInstanceAs (Decidable (_ ∧ _))
def Aged (c : Cd) : Prop := 0 ≤ c.a ∧ c.a ≤ 1099511627776
instance (c : Cd) : Decidable (Aged c) := inferInstanceAs (Decidable (_ ∧ _))
def May (s : Int) (c : Cd) : Prop := Okc s c ∧ Aged c
instance (s : Int) (c : Cd) : Decidable (May s c) := inferInstanceAs (Decidable (_ ∧ _))
def gain (s : Int) (c : Cd) : Int := (s - c.l) * (c.a + 1)
def cost (s : Int) (c : Cd) : Int := s + c.l
/-- what is held of a against what is held of b -/
def wgt (s p : Int) (a b : Cd) : Int := if p = 1 then gain s a * cost s b else b.l
def Bet (s p : Int) (a b : Cd) : Prop := wgt s p b a < wgt s p a b ∨ (wgt s p b a = wgt s p a b ∧ a.z < b.z)
instance (s p : Int) (a b : Cd) : Decidable (Bet s p a b) := inferInstanceAs (Decidable (_ ∨ _))
def Size (s : Int) : Prop := 1 ≤ s ∧ s ≤ 256

theorem gain_bd {s : Int} {c : Cd} (hs : Size s) (h : May s c) : 0 ≤ gain s c ∧ gain s c ≤ 256 * 1099511627777 := by
  obtain ⟨⟨h1, h2⟩, h3, h4⟩ := h
  obtain ⟨s1, s2⟩ := hs
  unfold gain
  refine ⟨Int.mul_nonneg (by omega) (by omega), Int.mul_le_mul (by omega) (by omega) (by omega) (by omega)⟩
theorem cost_bd {s : Int} {c : Cd} (hs : Size s) (h : Okc s c) : 1 ≤ cost s c ∧ cost s c ≤ 511 := by
  obtain ⟨h1, h2⟩ := h
  obtain ⟨s1, s2⟩ := hs
  unfold cost
  omega
theorem prod_bd {s : Int} {a b : Cd} (hs : Size s) (ha : May s a) (hb : May s b) : 0 ≤ gain s a * cost s b ∧ gain s a * cost s b ≤ 256 * 1099511627777 * 511 := by
  obtain ⟨g1, g2⟩ := gain_bd hs ha
  obtain ⟨c1, c2⟩ := cost_bd hs hb.1
  exact ⟨Int.mul_nonneg g1 (by omega), Int.mul_le_mul g2 c2 (by omega) (by omega)⟩
theorem wgt_bd {s p : Int} {a b : Cd} (hs : Size s) (ha : May s a) (hb : May s b) : 0 ≤ wgt s p a b ∧ wgt s p a b ≤ 143833713099276032 := by
  unfold wgt
  split
  · have h := prod_bd hs ha hb
    omega
  · obtain ⟨⟨h1, h2⟩, _⟩ := hb
    obtain ⟨s1, s2⟩ := hs
    omega
theorem bet_irrefl (s p : Int) (a : Cd) : ¬ Bet s p a a := by
  unfold Bet
  omega
theorem bet_anti {s p : Int} {a b : Cd} (h : Bet s p a b) : ¬ Bet s p b a := by
  unfold Bet at *
  omega
theorem bet_some {s p : Int} {a b : Cd} (h : a.z ≠ b.z) (hn : ¬ Bet s p b a) : Bet s p a b := by
  unfold Bet at *
  omega
theorem bet_zone {s p : Int} {a b : Cd} (h : ¬ Bet s p a b) (hn : ¬ Bet s p b a) : a.z = b.z := by
  unfold Bet at *
  omega
theorem frac {A B C x y z : Int} (hx : 0 < x) (hy : 0 < y) (hz : 0 < z) (h1 : B * x ≤ A * y) (h2 : C * y ≤ B * z) : C * x ≤ A * z ∧ (C * x = A * z → B * x = A * y ∧ C * y = B * z) := by
  have e1 : C * x * y = C * y * x := Int.mul_right_comm ..
  have e2 : B * z * x = B * x * z := Int.mul_right_comm ..
  have e3 : A * y * z = A * z * y := Int.mul_right_comm ..
  have m1 : C * y * x ≤ B * z * x := Int.mul_le_mul_of_nonneg_right h2 (by omega)
  have m2 : B * x * z ≤ A * y * z := Int.mul_le_mul_of_nonneg_right h1 (by omega)
  refine ⟨Int.le_of_mul_le_mul_right (a := y) (by omega) hy, fun h => ?_⟩
  have m3 : C * x * y = A * z * y := by rw [h]
  exact ⟨Int.eq_of_mul_eq_mul_right (a := z) (by omega) (by omega), Int.eq_of_mul_eq_mul_right (a := x) (by omega) (by omega)⟩
theorem bet_trans {s p : Int} {a b c : Cd} (hs : Size s) (ha : Okc s a) (hb : Okc s b) (hc : Okc s c) (h1 : Bet s p a b) (h2 : Bet s p b c) : Bet s p a c := by
  by_cases hp : p = 1
  · have ca := (cost_bd hs ha).1
    have cb := (cost_bd hs hb).1
    have cc := (cost_bd hs hc).1
    unfold Bet wgt at *
    simp only [if_pos hp] at *
    have hf := frac (A := gain s a) (B := gain s b) (C := gain s c) (x := cost s a) (y := cost s b) (z := cost s c) (by omega) (by omega) (by omega) (by omega) (by omega)
    obtain ⟨f1, f2⟩ := hf
    by_cases he : gain s c * cost s a = gain s a * cost s c
    · obtain ⟨f3, f4⟩ := f2 he
      exact .inr ⟨he, by omega⟩
    · exact .inl (by omega)
  · unfold Bet wgt at *
    simp only [if_neg hp] at *
    omega

/-- none of those that may be chosen is better -/
def Top (s p : Int) (l : List Cd) (b : Cd) : Prop := b ∈ l ∧ Okc s b ∧ ∀ x ∈ l, Okc s x → ¬ Bet s p x b
/-- what is chosen: the best one, or none -/
def Best (s p : Int) (l : List Cd) : Option Cd → Prop
  | none => ∀ x ∈ l, ¬ Okc s x
  | some b => Top s p l b
theorem best_nil (s p : Int) : Best s p [] none := by simp [Best]
theorem best_skip {s p : Int} {l : List Cd} {o : Option Cd} {c : Cd} (h : Best s p l o) (hc : ¬ Okc s c) : Best s p (l ++ [c]) o := by
  cases o with
  | none =>
    intro x hx
    rcases List.mem_append.1 hx with hx | hx
    · exact h x hx
    · rw [List.mem_singleton.1 hx]; exact hc
  | some b =>
    obtain ⟨h1, h2, h3⟩ := h
    refine ⟨List.mem_append_left _ h1, h2, fun x hx hk => ?_⟩
    rcases List.mem_append.1 hx with hx | hx
    · exact h3 x hx hk
    · rw [List.mem_singleton.1 hx] at hk
      exact absurd hk hc
theorem best_first {s p : Int} {l : List Cd} {c : Cd} (h : Best s p l none) (hc : Okc s c) : Best s p (l ++ [c]) (some c) := by
  refine ⟨by simp, hc, fun x hx hk => ?_⟩
  rcases List.mem_append.1 hx with hx | hx
  · exact absurd hk (h x hx)
  · rw [List.mem_singleton.1 hx]; exact bet_irrefl _ _ _
theorem best_more {s p : Int} {l : List Cd} {b c : Cd} (hs : Size s) (h : Best s p l (some b)) (hc : Okc s c) (hb : Bet s p c b) : Best s p (l ++ [c]) (some c) := by
  obtain ⟨h1, h2, h3⟩ := h
  refine ⟨by simp, hc, fun x hx hk => ?_⟩
  rcases List.mem_append.1 hx with hx | hx
  · exact fun hxc => h3 x hx hk (bet_trans hs hk hc h2 hxc hb)
  · rw [List.mem_singleton.1 hx]; exact bet_irrefl _ _ _
theorem best_less {s p : Int} {l : List Cd} {b c : Cd} (h : Best s p l (some b)) (hb : ¬ Bet s p c b) : Best s p (l ++ [c]) (some b) := by
  obtain ⟨h1, h2, h3⟩ := h
  refine ⟨List.mem_append_left _ h1, h2, fun x hx hk => ?_⟩
  rcases List.mem_append.1 hx with hx | hx
  · exact h3 x hx hk
  · rw [List.mem_singleton.1 hx]; exact hb
theorem best_ex {s : Int} (p : Int) (hs : Size s) : ∀ (l pre : List Cd) (o : Option Cd), Best s p pre o → ∃ o', Best s p (pre ++ l) o'
  | [], pre, o, h => ⟨o, by rw [List.append_nil]; exact h⟩
  | c :: l, pre, o, h => by
    have : ∃ o', Best s p (pre ++ [c]) o' := by
      by_cases hc : Okc s c
      · cases o with
        | none => exact ⟨_, best_first h hc⟩
        | some b =>
          by_cases hb : Bet s p c b
          · exact ⟨_, best_more hs h hc hb⟩
          · exact ⟨_, best_less h hb⟩
      · exact ⟨o, best_skip h hc⟩
    obtain ⟨o', h'⟩ := this
    have := best_ex p hs l (pre ++ [c]) o' h'
    rwa [List.append_assoc] at this
theorem best_is {s : Int} (p : Int) (hs : Size s) (l : List Cd) : ∃ o, Best s p l o := best_ex p hs l [] none (best_nil s p)
/-- none is a top one: none may be chosen -/
theorem best_none {s p : Int} (hs : Size s) {l : List Cd} (h : ∀ x ∈ l, ¬ Top s p l x) : Best s p l none := by
  obtain ⟨o, ho⟩ := best_is p hs l
  cases o with
  | none => exact ho
  | some b => exact absurd ho (h b ho.1)
def zn : Option Cd → Int
  | none => 0
  | some b => b.z
/-- in whichever order they stand: the same zone -/
theorem best_same {s p : Int} {l m : List Cd} {o o' : Option Cd} (h : Best s p l o) (h' : Best s p m o') (hm : ∀ x, x ∈ l ↔ x ∈ m) : zn o = zn o' ∧ o.isSome = o'.isSome := by
  cases o with
  | none =>
    cases o' with
    | none => exact ⟨rfl, rfl⟩
    | some b => exact absurd h'.2.1 (h b ((hm b).2 h'.1))
  | some a =>
    cases o' with
    | none => exact absurd h.2.1 (h' a ((hm a).1 h.1))
    | some b => exact ⟨bet_zone (h'.2.2 a ((hm a).1 h.1) h.2.1) (h.2.2 b ((hm b).2 h'.1) h'.2.1), rfl⟩
theorem mem_turn {l : List Cd} (k : Nat) (x : Cd) : x ∈ l ↔ x ∈ l.drop k ++ l.take k := by
  rw [List.mem_append, Or.comm, ← List.mem_append, List.take_append_drop]
end Pick
end Go.Proofs.Ytndjjgabfmplcaa

/-
  Layer 9's answers: Leaves.
-/
import Derived.Test.YtcligeajgbibnaaTbI
namespace Go.Proofs.Ytcligeajgbibnaa
open Go.RowKit Leaf Tbl
set_option linter.unusedVariables false

theorem lfls_set {ls : List Lf} (h : ∀ l ∈ ls, In l) {q : Nat} {l' : Lf} (hl' : In l') (hq : q < ls.length) : lfls (ls.set q l') = lay (lfls ls) (q * 12) (lcs l') := by
  have e : ls = ls.take q ++ (ls[q] :: ls.drop (q + 1)) := by rw [← List.drop_eq_getElem_cons hq, List.take_append_drop]
  have e2 : ls.set q l' = ls.take q ++ (l' :: ls.drop (q + 1)) := by
    conv => lhs; rw [e]
    rw [List.set_append_right _ _ (by rw [List.length_take]; omega), show q - (ls.take q).length = 0 by simp; omega, List.set_cons_zero]
  rw [e2, lfls_append, lfls_cons]
  conv => rhs; rw [e, lfls_append, lfls_cons]
  rw [lay_mid ?_ ?_]
  · rw [lfls_length (fun x hx => h x (List.mem_of_mem_take hx)), List.length_take]
    congr 1
    omega
  · rw [lcs_length hl', lcs_length (h _ (List.getElem_mem hq))]
theorem lfls_drop {ls : List Lf} (h : ∀ l ∈ ls, In l) {q : Nat} {l : Lf} (hl : ls[q]? = some l) : ((lfls ls).drop (q * 12)).take 12 = lcs l := by
  have hil := lcs_length (h l (List.mem_of_getElem? hl))
  obtain ⟨hq, _⟩ := List.getElem?_eq_some_iff.1 hl
  apply List.ext_getElem?
  intro j
  rw [List.getElem?_take]
  by_cases hj : j < 12
  · rw [if_pos hj, List.getElem?_drop, lfls_at h hl (v := (lcs l)[j]'(by omega)) (by simp [hil, hj])]
    simp [hil, hj]
  · rw [if_neg hj]
    exact (List.getElem?_eq_none (by omega)).symm
/-- one place of one leaf is turned -/
theorem lfls_place {ls : List Lf} (h : ∀ l ∈ ls, In l) {q j : Nat} {l : Lf} {x : Int} (hl : ls[q]? = some l) (hj : j < 10) : (lfls ls).set (q * 12 + 2 + j) (.int .i64 x) = lfls (ls.set q { l with places := l.places.set j x }) := by
  have hil := h l (List.mem_of_getElem? hl)
  obtain ⟨hq, _⟩ := List.getElem?_eq_some_iff.1 hl
  have hi2 : In { l with places := l.places.set j x } := by
    unfold In at hil ⊢
    rw [List.length_set]
    exact hil
  rw [lfls_set h hi2 hq, ← lcs_set, Nat.add_assoc, lay_set]
  · rw [lcs_length hil, lfls_length h]
    omega
  · rw [lcs_length hil]
    exact lfls_drop h hl
  · rw [lcs_length hil]
    omega
namespace Tbl
theorem leafOf_get? (Y : List Int) (q i : Nat) : (leafOf Y q)[i]? = if i < 10 then Y[q * 10 + i]? else none := by
  unfold leafOf
  rw [List.getElem?_take, List.getElem?_drop]
theorem leafOf_set_same {Y : List Int} {q j : Nat} {x : Int} (hj : j < 10) : leafOf (Y.set (q * 10 + j) x) q = (leafOf Y q).set j x := by
  apply List.ext_getElem?
  intro i
  by_cases hi : i < 10
  · rw [leafOf_get?, if_pos hi]
    by_cases e : j = i
    · subst e
      by_cases hY : q * 10 + j < Y.length
      · rw [List.getElem?_set_self hY, List.getElem?_set_self (by simp [leafOf]; omega)]
      · rw [List.getElem?_eq_none (by rw [List.length_set]; omega), List.getElem?_eq_none (by rw [List.length_set]; simp [leafOf]; omega)]
    · rw [List.getElem?_set_ne (by omega), List.getElem?_set_ne e, leafOf_get?, if_pos hi]
  · rw [leafOf_get?, if_neg hi]
    exact (List.getElem?_eq_none (by rw [List.length_set]; simp [leafOf]; omega)).symm
theorem leafOf_set_other {Y : List Int} {q q' j : Nat} {x : Int} (hj : j < 10) (hq : q' ≠ q) : leafOf (Y.set (q * 10 + j) x) q' = leafOf Y q' := by
  apply List.ext_getElem?
  intro i
  rw [leafOf_get?, leafOf_get?]
  by_cases hi : i < 10
  · rw [if_pos hi, if_pos hi, List.getElem?_set_ne (by omega)]
  · rw [if_neg hi, if_neg hi]
/-- places with zeros behind, up to whole leaves -/
def padT (xs : List Int) : List Int := xs ++ List.replicate (10 * pages xs.length - xs.length) 0
theorem padT_length (xs : List Int) : (padT xs).length = 10 * pages xs.length := by
  have := pages_up xs.length
  simp [padT]
  omega
theorem padT_low {xs : List Int} {k : Nat} (h : k < xs.length) : (padT xs)[k]? = xs[k]? := by
  unfold padT
  rw [List.getElem?_append_left h]
theorem padT_high {xs : List Int} {k : Nat} (h : xs.length ≤ k) (h2 : k < 10 * pages xs.length) : (padT xs)[k]? = some 0 := by
  unfold padT
  rw [List.getElem?_append_right h, List.getElem?_replicate, if_pos (by omega)]
theorem padT_take (xs : List Int) : (padT xs).take xs.length = xs := by simp [padT]
theorem lfsOf_set {Y : List Int} {gen x : Int} {q j P : Nat} (hj : j < 10) (hq : q < P) : (lfsOf Y gen P).set q { lfOf Y gen q with places := (leafOf Y q).set j x } = lfsOf (Y.set (q * 10 + j) x) gen P := by
  apply List.ext_getElem?
  intro i
  by_cases hi : i < P
  · rw [lfsOf_get hi]
    by_cases e : q = i
    · subst e
      rw [List.getElem?_set_self (by rw [lfsOf_length]; exact hi)]
      unfold lfOf
      rw [leafOf_set_same hj]
    · rw [List.getElem?_set_ne e, lfsOf_get hi]
      unfold lfOf
      rw [leafOf_set_other hj (fun h => e h.symm)]
  · rw [List.getElem?_eq_none (by rw [List.length_set, lfsOf_length]; omega), List.getElem?_eq_none (by rw [lfsOf_length]; omega)]
theorem lfsOf_snoc {Y : List Int} {gen : Int} {P : Nat} (hY : Y.length = 10 * P) : lfsOf Y gen P ++ [⟨gen, P, z10⟩] = lfsOf (Y ++ z10) gen (P + 1) := by
  unfold lfsOf
  rw [List.range_succ, List.map_append]
  congr 1
  · apply List.map_congr_left
    intro q hq
    have hq : q < P := by simpa using hq
    unfold lfOf leafOf
    rw [List.drop_append_of_le_length (by omega), List.take_append_of_le_length (by rw [List.length_drop]; omega)]
  · unfold lfOf leafOf
    rw [List.map_cons, List.map_nil, List.drop_append, List.drop_eq_nil_of_le (by omega), show P * 10 - Y.length = 0 by omega]
    rfl
theorem pages_step0 {k : Nat} (h : k % 10 = 0) : pages k = k / 10 ∧ pages (k + 1) = k / 10 + 1 := by unfold pages; omega
theorem pages_step1 {k : Nat} (h : ¬ k % 10 = 0) : pages (k + 1) = pages k ∧ k / 10 < pages k := by unfold pages; omega
theorem padT_step0 {xs : List Int} {k : Nat} (h : k % 10 = 0) (hk : k < xs.length) : (padT (xs.take k) ++ z10).set k (xs.getD k 0) = padT (xs.take (k + 1)) := by
  have hl : (xs.take k).length = k := by rw [List.length_take]; omega
  have hl1 : (xs.take (k + 1)).length = k + 1 := by rw [List.length_take]; omega
  have hp0 : 10 * pages k = k := by unfold pages; omega
  have hp1 : 10 * pages (k + 1) = k + 10 := by unfold pages; omega
  have e0 : padT (xs.take k) = xs.take k := by unfold padT; rw [hl, hp0, Nat.sub_self, List.replicate_zero, List.append_nil]
  rw [e0]
  apply List.ext_getElem?
  intro i
  rcases (show i < k ∨ i = k ∨ (k < i ∧ i < k + 10) ∨ k + 10 ≤ i by omega) with hi | hi | ⟨h1, h2⟩ | hi
  · rw [List.getElem?_set_ne (by omega), List.getElem?_append_left (by omega), padT_low (by omega), List.getElem?_take, List.getElem?_take, if_pos hi, if_pos (by omega)]
  · subst hi
    rw [List.getElem?_set_self (by rw [List.length_append, hl]; simp), padT_low (by omega), List.getElem?_take, if_pos (by omega)]
    simp [List.getD_eq_getElem?_getD, hk]
  · rw [List.getElem?_set_ne (by omega), padT_high (by omega) (by rw [hl1]; omega), List.getElem?_append_right (by omega), hl, List.getElem?_replicate, if_pos (by omega)]
  · rw [List.getElem?_eq_none (by rw [List.length_set, List.length_append, hl]; simp; omega), List.getElem?_eq_none (by rw [padT_length, hl1]; omega)]
theorem padT_step1 {xs : List Int} {k : Nat} (h : ¬ k % 10 = 0) (hk : k < xs.length) : (padT (xs.take k)).set k (xs.getD k 0) = padT (xs.take (k + 1)) := by
  have hl : (xs.take k).length = k := by rw [List.length_take]; omega
  have hl1 : (xs.take (k + 1)).length = k + 1 := by rw [List.length_take]; omega
  have hp : pages (k + 1) = pages k := (pages_step1 h).1
  have hp1 : k < 10 * pages k := by unfold pages; omega
  apply List.ext_getElem?
  intro i
  rcases (show i < k ∨ i = k ∨ (k < i ∧ i < 10 * pages k) ∨ 10 * pages k ≤ i by omega) with hi | hi | ⟨h1, h2⟩ | hi
  · rw [List.getElem?_set_ne (by omega), padT_low (by omega), padT_low (by omega), List.getElem?_take, List.getElem?_take, if_pos hi, if_pos (by omega)]
  · subst hi
    rw [List.getElem?_set_self (by rw [padT_length, hl]; exact hp1), padT_low (by omega), List.getElem?_take, if_pos (by omega)]
    simp [List.getD_eq_getElem?_getD, hk]
  · rw [List.getElem?_set_ne (by omega), padT_high (xs := xs.take k) (by omega) (by rw [hl]; omega), padT_high (xs := xs.take (k + 1)) (by omega) (by rw [hl1, hp]; omega)]
  · rw [List.getElem?_eq_none (by rw [List.length_set, padT_length, hl]; omega), List.getElem?_eq_none (by rw [padT_length, hl1, hp]; omega)]
end Tbl
theorem padT_in (xs : List Int) (gen : Int) : ∀ l ∈ lfsOf (padT xs) gen (pages xs.length), In l := lfsOf_in (padT_length xs)
end Go.Proofs.Ytcligeajgbibnaa

/-
  The walk of the law CrcKeeps.
-/
import Derived.Test.YtoehflalpidhfaaCrcF
namespace Go.Proofs.Ytoehflalpidhfaa
open Go.RowKit Word Crc
set_option linter.unusedVariables false

theorem right_parts (xs ys : List Int) (h4 : ys.length = 4) : rightB (xs ++ ys) = (val ys == ((Crc.sum xs : Nat) : Int)) := by
  unfold rightB
  have e : (xs ++ ys).length - 4 = xs.length := by simp [h4]
  rw [e, List.drop_left, List.take_left]
  simp [h4]
theorem val_four {xs : List Int} (hb : octets xs) : val (le 4 ((Crc.sum xs : Nat) : Int)) = ((Crc.sum xs : Nat) : Int) := by
  have hs := sum_lt hb
  rw [val_le]
  exact Int.emod_eq_of_lt (by omega) (by simp; omega)
theorem right_sealed {xs : List Int} (hb : octets xs) : rightB (sealed xs) = true := by
  unfold sealed
  rw [right_parts _ _ (le_length _ _), val_four hb]
  exact beq_self_eq_true _
theorem right_turned {xs : List Int} (hb : octets xs) {k : Nat} (hk : k < xs.length + 4) {x : Int} (hx : 0 ≤ x ∧ x ≤ 255) (hne : x ≠ (sealed xs).getD k 0) : rightB ((sealed xs).set k x) = false := by
  unfold sealed at hne ⊢
  by_cases h : k < xs.length
  · rw [List.set_append_left _ _ h, right_parts _ _ (le_length _ _), val_four hb, beq_eq_false_iff_ne]
    intro he
    have he : Crc.sum xs = Crc.sum (xs.set k x) := by omega
    have e1 : xs = xs.take k ++ xs[k] :: xs.drop (k + 1) := by rw [← List.drop_eq_getElem_cons h, List.take_append_drop]
    have e2 : xs.set k x = xs.take k ++ x :: xs.drop (k + 1) := List.set_eq_take_append_cons_drop .. |>.trans (by rw [if_pos h])
    rw [e2] at he
    rw [show Crc.sum xs = Crc.sum (xs.take k ++ xs[k] :: xs.drop (k + 1)) from by rw [← e1]] at he
    have h1 := sum_one (fun y hy => hb y (List.mem_of_mem_take hy)) (fun y hy => hb y (List.mem_of_mem_drop hy)) (hb _ (List.getElem_mem h)) hx he
    apply hne
    rw [List.getD_eq_getElem?_getD, List.getElem?_append_left h, List.getElem?_eq_getElem h]
    exact h1.symm
  · have hl := le_length 4 ((Crc.sum xs : Nat) : Int)
    rw [List.set_append_right _ _ (by omega), right_parts _ _ (by simp [hl]), beq_eq_false_iff_ne]
    intro he
    apply hne
    have hj : k - xs.length < 4 := by omega
    have ho : octets ((le 4 ((Crc.sum xs : Nat) : Int)).set (k - xs.length) x) := by
      intro y hy
      rcases List.mem_or_eq_of_mem_set hy with h | h
      · exact le_bytes _ _ y h
      · rw [h]; exact hx
    have e := le_val _ ho
    rw [List.length_set, hl, he] at e
    rw [List.getD_eq_getElem?_getD, List.getElem?_append_right (by omega), e, List.getElem?_set_self (by rw [hl]; exact hj)]
    rfl
theorem sealed_take (xs : List Int) (n : Nat) (h : xs.length = n) : (sealed xs).take n = xs := by subst h; simp [sealed]

theorem right_xor {xs : List Int} (hb : octets xs) {k : Nat} (hk : k < xs.length + 4) {y : Int} (hy : 0 ≤ y ∧ y ≤ 255) :
    rightB ((sealed xs).set k (bits .xor .u8 ((sealed xs).getD k 0) y)) = (y == 0) := by
  have hc := octets_getD (sealed_octets hb) k
  have hX := u8_xor ((sealed xs).getD k 0) y hc.1 (by omega) hy.1 (by omega)
  by_cases h0 : y = 0
  · subst h0
    have e : bits .xor .u8 ((sealed xs).getD k 0) 0 = (sealed xs).getD k 0 := by rw [hX, show (0 : Int).toNat = 0 from rfl, Nat.xor_zero]; omega
    rw [e]
    have e2 : (sealed xs).set k ((sealed xs).getD k 0) = sealed xs := by
      apply List.ext_getElem?
      intro i
      rw [List.getElem?_set]
      by_cases h : k = i
      · subst h
        rw [if_pos rfl, if_pos (by rw [sealed_length]; exact hk), List.getD_eq_getElem?_getD, List.getElem?_eq_getElem (by rw [sealed_length]; exact hk)]
        rfl
      · rw [if_neg h]
    rw [e2, right_sealed hb]
    rfl
  · rw [show (y == 0) = false from by simp [h0]]
    have hlt := Nat.xor_lt_two_pow (n := 8) (show ((sealed xs).getD k 0).toNat < 2 ^ 8 by omega) (show y.toNat < 2 ^ 8 by omega)
    refine right_turned hb hk ?_ ?_
    · rw [hX]; omega
    · rw [hX]
      intro he
      have h1 : ((sealed xs).getD k 0).toNat ^^^ y.toNat = ((sealed xs).getD k 0).toNat := by omega
      have h2 := congrArg (((sealed xs).getD k 0).toNat ^^^ ·) h1
      simp only [← Nat.xor_assoc, Nat.xor_self, Nat.zero_xor] at h2
      omega

end Go.Proofs.Ytoehflalpidhfaa

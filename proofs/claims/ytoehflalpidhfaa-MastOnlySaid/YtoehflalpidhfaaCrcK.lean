/-
  The walks of the laws CrcSeals, CrcTears.
-/
import Derived.Test.YtoehflalpidhfaaCrcF
namespace Go.Proofs.Ytoehflalpidhfaa
open Go.RowKit Word Crc
set_option linter.unusedVariables false

theorem sealed_eq (xs ys : List Int) (hx : octets xs) (hy : octets ys) (h4 : ys.length = 4) : (sealed xs == xs ++ ys) = (val ys == ((Crc.sum xs : Nat) : Int)) := by
  have h1 : (sealed xs == xs ++ ys) = (le 4 ((Crc.sum xs : Nat) : Int) == ys) := by
    rw [Bool.eq_iff_iff, beq_iff_eq, beq_iff_eq]
    exact List.append_cancel_left_eq .. |>.to_iff
  rw [h1, Bool.eq_iff_iff, beq_iff_eq, beq_iff_eq]
  have hs := sum_lt hx
  constructor
  · intro h
    rw [← h, val_le]
    exact Int.emod_eq_of_lt (by omega) (by simp; omega)
  · intro h
    rw [← h, ← h4]
    exact le_val ys hy
theorem rightB_eq (zs : List Int) (hb : octets zs) (h4 : 4 ≤ zs.length) : rightB zs = (sealed (zs.take (zs.length - 4)) == zs) := by
  have h := sealed_eq (zs.take (zs.length - 4)) (zs.drop (zs.length - 4)) (fun y hy => hb y (List.mem_of_mem_take hy)) (fun y hy => hb y (List.mem_of_mem_drop hy)) (by simp; omega)
  rw [List.take_append_drop] at h
  rw [h]
  simp [rightB, h4]

end Go.Proofs.Ytoehflalpidhfaa

/-
  The mathematics of package zone: a zone that is filled. No program.
-/
import Derived.Test.YtdcidjbgncbcpaaZoneN
namespace Go.Proofs.Ytdcidjbgncbcpaa.Zone
open Geom

theorem cnt_newK (n c : Nat) : cnt (newK n c) = 0 := by
  unfold cnt newK
  rw [List.countP_eq_zero]
  intro z hz
  rw [List.mem_append, List.mem_replicate, List.mem_replicate] at hz
  rcases hz with ⟨_, rfl⟩ | ⟨_, rfl⟩ <;> decide

/-- a zone behind i writes -/
def fz (size : Int) (i : Nat) : Z := if i = 0 then (0, 0) else if (i : Int) = size then (3, i) else (1, i)
/-- all zones, one of which was written i times -/
def fillL (n c a : Nat) (size : Int) (i : Nat) : List Z := (newK n c).set a (fz size i)
theorem fill_length {n c a : Nat} {size : Int} {i : Nat} (h : c ≤ n) : (fillL n c a size i).length = n := by simp [fillL, newK_length h]
theorem fill_zero {n c a : Nat} {size : Int} (hc : c ≤ a) (ha : a < n) : fillL n c a size 0 = newK n c := by
  unfold fillL
  apply List.ext_getElem?
  intro j
  by_cases hj : j = a
  · subst hj
    rw [List.getElem?_set_self (by rw [newK_length (by omega)]; exact ha), newK_get (by omega) ha, if_neg (by omega)]
    rfl
  · rw [List.getElem?_set_ne (Ne.symm hj)]
theorem fill_at {n c a : Nat} {size : Int} {i : Nat} (hc : c ≤ a) (ha : a < n) : (fillL n c a size i)[a]? = some (fz size i) := by
  unfold fillL
  rw [List.getElem?_set_self (by rw [newK_length (by omega)]; exact ha)]
theorem fill_zat {n c a : Nat} {size : Int} {i : Nat} (hc : c ≤ a) (ha : a < n) : zat (fillL n c a size i) (a : Int) = fz size i := by
  have := fill_at (size := size) (i := i) hc ha
  simp [zat, this]
theorem fill_set {n c a : Nat} {size : Int} {i : Nat} {z : Z} : (fillL n c a size i).set a z = (newK n c).set a z := by
  unfold fillL
  rw [List.set_set]
theorem fill_in {conv soft seq size off : Int} {n a : Nat} (hn : (n : Int) = conv + seq) (hc : conv ≤ (a : Int)) (ha : a < n) (h : 0 ≤ off ∧ off < size) : inB conv soft seq size (a : Int) off = true := by
  refine decide_eq_true ?_
  unfold sectors
  rw [if_neg (by omega), if_neg (by omega)]
  exact h
theorem fill_has {conv seq : Int} {n a : Nat} (hn : (n : Int) = conv + seq) (ha : a < n) : hasB conv seq (a : Int) = true := has_yes ⟨by omega, by omega⟩
section
variable {conv soft seq size opn : Int} {n a : Nat} (H : Some conv seq size) (hn : (n : Int) = conv + seq) (hc : conv ≤ (a : Int)) (ha : a < n) (ho : 3 ≤ opn)
include H hn hc ha ho in
theorem fill_write {i : Nat} (hi : (i : Int) < size) : writeL conv soft seq size opn (fillL n conv.toNat a size i) a i = (fillL n conv.toNat a size (i + 1), 0) := by
  obtain ⟨q1, q2, q3, q4, q5⟩ := id H
  have hca : conv.toNat ≤ a := by omega
  unfold writeL
  rw [if_pos (fill_in hn hc ha ⟨by omega, hi⟩), turnL_eq _ _ _ _ _ _ (fill_has hn ha), fill_zat hca ha, Int.toNat_natCast, fill_set]
  have hroom : (fz size i).1 = 1 ∨ decide ((cnt (fillL n conv.toNat a size i) : Int) < opn) = true := by
    by_cases h0 : i = 0
    · subst h0
      right
      rw [fill_zero hca ha, cnt_newK]
      exact decide_eq_true (by omega)
    · left
      unfold fz
      rw [if_neg h0, if_neg (by omega)]
  have hs : (fz size i).1 ≠ 4 ∧ (fz size i).1 ≠ 3 ∧ (fz size i).2 = i := by
    unfold fz
    by_cases h0 : i = 0
    · subst h0
      exact ⟨by simp, by simp, rfl⟩
    · rw [if_neg h0, if_neg (by omega)]
      exact ⟨by simp, by simp, rfl⟩
  have hw : writeZ i size (decide ((cnt (fillL n conv.toNat a size i) : Int) < opn)) (fz size i) = (fz size (i + 1), 0) := by
    unfold writeZ
    rw [if_neg hs.1, if_neg hs.2.1, if_neg (not_not_intro hs.2.2.symm), if_pos hroom, hs.2.2]
    have hf : fz size (i + 1) = if (i : Int) + 1 = size then (3, (i : Int) + 1) else (1, (i : Int) + 1) := by
      unfold fz
      rw [if_neg (by omega)]
      rfl
    rw [hf]
    by_cases h1 : (i : Int) + 1 = size
    · rw [if_pos h1, if_pos h1]
    · rw [if_neg h1, if_neg h1]
  rw [hw]
  rfl
include H hn hc ha in
theorem fill_read {i : Nat} (hi : (i : Int) < size) : readE conv soft seq size (fillL n conv.toNat a size (i + 1)) a i = 0 := by
  obtain ⟨q1, q2, q3, q4, q5⟩ := id H
  unfold readE
  rw [if_pos (fill_in hn hc ha ⟨by omega, hi⟩), fill_zat (by omega) ha, if_neg]
  rintro ⟨_, h⟩
  unfold fz at h
  rw [if_neg (by omega)] at h
  split at h <;> simp at h <;> omega
include H hn hc ha in
theorem fill_last {i : Nat} (hi : (i : Int) = size) : writeL conv soft seq size opn (fillL n conv.toNat a size i) a (size - 1) = (fillL n conv.toNat a size i, 3) := by
  obtain ⟨q1, q2, q3, q4, q5⟩ := id H
  have hf : fz size i = (3, (i : Int)) := by
    unfold fz
    rw [if_neg (by omega), if_pos hi]
  unfold writeL
  rw [if_pos (fill_in hn hc ha ⟨by omega, by omega⟩), turnL_eq _ _ _ _ _ _ (fill_has hn ha), fill_zat (by omega) ha, Int.toNat_natCast, fill_set, hf]
  have hw : writeZ (size - 1) size (decide ((cnt (fillL n conv.toNat a size i) : Int) < opn)) (3, (i : Int)) = ((3, (i : Int)), 3) := (if_neg (by simp)).trans (if_pos rfl)
  rw [hw]
  show ((newK n conv.toNat).set a (3, (i : Int)), (3 : Int)) = ((newK n conv.toNat).set a (fz size i), 3)
  rw [hf]
include H hc ha in
theorem fill_full {i : Nat} (hi : (i : Int) = size) : (fillL n conv.toNat a size i)[a]? = some (3, (i : Int)) := by
  obtain ⟨q1, q2, q3, q4, q5⟩ := id H
  rw [fill_at (by omega) ha]
  unfold fz
  rw [if_neg (by omega), if_pos hi]
include H hn hc ha in
theorem fill_reset {i : Nat} (hi : (i : Int) = size) : turnL (fun _ z => resetZ z) conv seq opn (fillL n conv.toNat a size i) a = (newK n conv.toNat, 0) := by
  obtain ⟨q1, q2, q3, q4, q5⟩ := id H
  have h0 := fill_zero (size := size) (show conv.toNat ≤ a by omega) ha
  rw [turnL_yes (z' := (0, 0)) (e := 0) (fill_has hn ha) (fill_full H hc ha hi) (if_neg (by simp)), fill_set]
  rw [← h0]
  unfold fillL
  rw [List.set_set]
  rfl
end
end Go.Proofs.Ytdcidjbgncbcpaa.Zone

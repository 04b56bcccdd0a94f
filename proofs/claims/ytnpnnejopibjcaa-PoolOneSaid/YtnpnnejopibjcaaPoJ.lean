/-
  Pools: plain mathematics of Open.
-/
import Derived.Test.YtnpnnejopibjcaaPoN
import Derived.Test.YtnpnnejopibjcaaZoneM
namespace Go.Proofs.Ytnpnnejopibjcaa
namespace Pol
open Geom Zone
set_option linter.unusedVariables false

/-- what is used of each sequential zone -/
def ptL (size : Int) (L : List Z) : List Int := L.map fun z => usedI size z.1 z.2
theorem ptL_length (size : Int) (L : List Z) : (ptL size L).length = L.length := by simp [ptL]
theorem ptL_at {size : Int} {L : List Z} {k : Nat} {z : Z} (h : L[k]? = some z) : (ptL size L).getD k 0 = usedI size z.1 z.2 := by
  simp [ptL, List.getD_eq_getElem?_getD, h]
/-- the zones that are begun, of the first k -/
def begX (conv size : Int) (U : List Int) : Nat → List Int
  | 0 => []
  | k + 1 => begX conv size U k ++ (if partB size (U.getD k 0) = true then [conv + k] else [])
theorem beg_yes {conv size : Int} {U : List Int} {k : Nat} (h : partB size (U.getD k 0) = true) : begX conv size U (k + 1) = begX conv size U k ++ [conv + k] := by rw [begX, if_pos h]
theorem beg_no {conv size : Int} {U : List Int} {k : Nat} (h : partB size (U.getD k 0) = false) : begX conv size U (k + 1) = begX conv size U k := by rw [begX, h]; simp
theorem beg_le (conv size : Int) (U : List Int) : ∀ k, (begX conv size U k).length ≤ k
  | 0 => Nat.le_refl _
  | k + 1 => by
    have := beg_le conv size U k
    rw [begX, List.length_append]
    split <;> simp <;> omega
theorem beg_mem {conv size z : Int} {U : List Int} : ∀ {n : Nat}, z ∈ begX conv size U n ↔ ∃ j : Nat, j < n ∧ z = conv + j ∧ partB size (U.getD j 0) = true
  | 0 => by simp [begX]
  | n + 1 => by
    rw [begX, List.mem_append, beg_mem (n := n)]
    constructor
    · rintro (⟨j, h1, h2, h3⟩ | h)
      · exact ⟨j, by omega, h2, h3⟩
      · by_cases hx : partB size (U.getD n 0) = true
        · rw [if_pos hx] at h
          exact ⟨n, by omega, by simpa using h, hx⟩
        · rw [if_neg hx] at h
          cases h
    · rintro ⟨j, h1, h2, h3⟩
      by_cases hj : j = n
      · subst hj
        right
        rw [if_pos h3]
        simpa using h2
      · exact .inl ⟨j, by omega, h2, h3⟩
theorem beg_rise (conv size : Int) (U : List Int) : ∀ n : Nat, (begX conv size U n).Pairwise (· < ·)
  | 0 => .nil
  | n + 1 => by
    rw [begX, List.pairwise_append]
    refine ⟨beg_rise conv size U n, ?_, ?_⟩
    · split <;> simp
    · intro a ha b hb
      obtain ⟨j, h1, h2, _⟩ := beg_mem.1 ha
      split at hb
      · have : b = conv + n := by simpa using hb
        omega
      · cases hb
/-- a list of at most three, as three heads -/
theorem three_cases {b : List Int} (h : b.length ≤ 3) : b = [] ∨ (∃ x, b = [x]) ∨ (∃ x y, b = [x, y]) ∨ ∃ x y z, b = [x, y, z] := by
  rcases b with _ | ⟨x, _ | ⟨y, _ | ⟨z, _ | ⟨t, r⟩⟩⟩⟩
  · exact .inl rfl
  · exact .inr (.inl ⟨x, rfl⟩)
  · exact .inr (.inr (.inl ⟨x, y, rfl⟩))
  · exact .inr (.inr (.inr ⟨x, y, z, rfl⟩))
  · simp at h
theorem isH_beg {b : List Int} (h : b.length ≤ 3) {z : Int} (hz : z ∈ b) : isH (b.getD 0 0) (b.getD 1 0) (b.getD 2 0) z = true := by
  rcases three_cases h with rfl | ⟨x, rfl⟩ | ⟨x, y, rfl⟩ | ⟨x, y, t, rfl⟩
  · cases hz
  · simp at hz; simp [isH, hz]
  · simp at hz; rcases hz with rfl | rfl <;> simp [isH]
  · simp at hz; rcases hz with rfl | rfl | rfl <;> simp [isH]
/-- the pool that Open tells is right -/
theorem open_right {conv seq size : Int} {U : List Int} (S : Some conv seq size) (hl : (U.length : Int) = seq) (hU : ∀ (i : Nat) (x : Int), U[i]? = some x → 0 ≤ x ∧ x ≤ size) (h : (begX conv size U U.length).length ≤ 3) :
    Ri conv seq size U ((begX conv size U U.length).getD 0 0) ((begX conv size U U.length).getD 1 0) ((begX conv size U U.length).getD 2 0) := by
  obtain ⟨q1, q2, q3, q4, q5⟩ := S
  have hb : ∀ z ∈ begX conv size U U.length, conv ≤ z ∧ z < conv + seq ∧ U.getD (z - conv).toNat 0 < size := by
    intro z hz
    obtain ⟨j, h1, h2, h3⟩ := beg_mem.1 hz
    have hx : U[j]? = some (U.getD j 0) := by simp [h1]
    have := hU _ _ hx
    have e : (z - conv).toNat = j := by omega
    rw [e]
    have h4 : U.getD j 0 ≠ size := by
      intro e
      rw [e] at h3
      simp [partB] at h3
    exact ⟨by omega, by omega, by omega⟩
  have hr := beg_rise conv size U U.length
  have hin : ∀ i, (begX conv size U U.length).getD i 0 = 0 ∨ (conv ≤ (begX conv size U U.length).getD i 0 ∧ (begX conv size U U.length).getD i 0 < conv + seq ∧ U.getD ((begX conv size U U.length).getD i 0 - conv).toNat 0 < size) := by
    intro i
    by_cases hi : i < (begX conv size U U.length).length
    · right
      exact hb _ (by rw [show (begX conv size U U.length).getD i 0 = (begX conv size U U.length)[i] by simp [hi]]; exact List.getElem_mem hi)
    · left
      simp [List.getD_eq_getElem?_getD, List.getElem?_eq_none (Nat.le_of_not_lt hi)]
  refine ⟨hl, hin 0, hin 1, hin 2, ?_, ?_, ?_, ?_⟩
  · rcases three_cases h with e | ⟨x, e⟩ | ⟨x, y, e⟩ | ⟨x, y, t, e⟩ <;> rw [e] at hr ⊢ <;> simp at hr ⊢ <;> omega
  · rcases three_cases h with e | ⟨x, e⟩ | ⟨x, y, e⟩ | ⟨x, y, t, e⟩ <;> rw [e] at hr ⊢ <;> simp at hr ⊢ <;> omega
  · rcases three_cases h with e | ⟨x, e⟩ | ⟨x, y, e⟩ | ⟨x, y, t, e⟩ <;> rw [e] at hr ⊢ <;> simp at hr ⊢ <;> omega
  · intro i x hx
    obtain ⟨h1, h2⟩ := hU i x hx
    have hi : i < U.length := by
      rcases Nat.lt_or_ge i U.length with h' | h'
      · exact h'
      · rw [List.getElem?_eq_none h'] at hx; cases hx
    refine ⟨h1, h2, ?_⟩
    by_cases hp : partB size x = true
    · refine .inr (.inr (isH_beg h (beg_mem.2 ⟨i, hi, rfl, ?_⟩)))
      rw [List.getD_eq_getElem?_getD, hx]
      exact hp
    · simp only [partB, Bool.and_eq_true, bne_iff_ne, ne_eq, not_and, Classical.not_not] at hp
      by_cases h0 : x = 0
      · exact .inl h0
      · exact .inr (.inl (hp h0))
theorem zc_drop : ∀ (L : List Z) (k : Nat), (zc L).drop (k * 2) = zc (L.drop k)
  | L, 0 => by simp
  | [], k + 1 => by simp [zc]
  | z :: L, k + 1 => by
    rw [show (k + 1) * 2 = k * 2 + 1 + 1 by omega]
    exact zc_drop L k
end Pol
end Go.Proofs.Ytnpnnejopibjcaa

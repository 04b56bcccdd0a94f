/-
  Pools: plain mathematics of a stream's head.
-/
import Derived.Test.YtbhcemipjfdemaaPoM
namespace Go.Proofs.Ytbhcemipjfdemaa
namespace Pol
open Geom
set_option linter.unusedVariables false

/-- the head of stream s -/
def hd (h0 h1 h2 : Int) (s : Nat) : Int := if s = 0 then h0 else if s = 1 then h1 else h2
/-- the head of stream i, behind that stream s has got z -/
def sH (s i : Nat) (z h : Int) : Int := if s = i then z else h
theorem hd0 {h0 h1 h2 : Int} : hd h0 h1 h2 0 = h0 := rfl
theorem hd1 {h0 h1 h2 : Int} : hd h0 h1 h2 1 = h1 := rfl
theorem hd2 {h0 h1 h2 : Int} : hd h0 h1 h2 2 = h2 := rfl
theorem sH_self {h0 h1 h2 : Int} {s : Nat} (hs : s < 3) : sH s 0 (hd h0 h1 h2 s) h0 = h0 ∧ sH s 1 (hd h0 h1 h2 s) h1 = h1 ∧ sH s 2 (hd h0 h1 h2 s) h2 = h2 := by
  obtain rfl | rfl | rfl : s = 0 ∨ s = 1 ∨ s = 2 := by omega
  · exact ⟨rfl, rfl, rfl⟩
  · exact ⟨rfl, rfl, rfl⟩
  · exact ⟨rfl, rfl, rfl⟩
theorem sH_twice {s i : Nat} {z z' h : Int} : sH s i z (sH s i z' h) = sH s i z h := by
  unfold sH
  split <;> rfl
theorem hd_sH {h0 h1 h2 z : Int} {s : Nat} (hs : s < 3) : hd (sH s 0 z h0) (sH s 1 z h1) (sH s 2 z h2) s = z := by
  obtain rfl | rfl | rfl : s = 0 ∨ s = 1 ∨ s = 2 := by omega
  · rfl
  · rfl
  · rfl
/-- the zone in which stream s goes on -/
def pick (conv : Int) (ps : List Int) (h0 h1 h2 : Int) (n s : Nat) : Option Int := if hd h0 h1 h2 s = 0 then (freeX conv ps h0 h1 h2 n).head? else some (hd h0 h1 h2 s)
theorem pick_head {conv : Int} {ps : List Int} {h0 h1 h2 : Int} {n s : Nat} (h : hd h0 h1 h2 s ≠ 0) : pick conv ps h0 h1 h2 n s = some (hd h0 h1 h2 s) := if_neg h
theorem pick_free {conv : Int} {ps : List Int} {h0 h1 h2 : Int} {n s : Nat} (h : hd h0 h1 h2 s = 0) : pick conv ps h0 h1 h2 n s = (freeX conv ps h0 h1 h2 n).head? := if_pos h
theorem zones_mem {conv x z : Int} {ps : List Int} : ∀ {n : Nat}, z ∈ zonesX conv ps x n ↔ ∃ j : Nat, j < n ∧ z = conv + j ∧ ps.getD j 0 = x
  | 0 => by simp [zonesX]
  | n + 1 => by
    rw [zonesX, List.mem_append, zones_mem (n := n)]
    constructor
    · rintro (⟨j, h1, h2, h3⟩ | h)
      · exact ⟨j, by omega, h2, h3⟩
      · by_cases hx : ps.getD n 0 = x
        · rw [if_pos hx] at h
          exact ⟨n, by omega, by simpa using h, hx⟩
        · rw [if_neg hx] at h
          cases h
    · rintro ⟨j, h1, h2, h3⟩
      by_cases hj : j = n
      · subst hj
        right
        rw [if_pos h3]
        simpa using h2
      · exact .inl ⟨j, by omega, h2, h3⟩
theorem free_mem {conv z h0 h1 h2 : Int} {ps : List Int} {n : Nat} : z ∈ freeX conv ps h0 h1 h2 n ↔ (∃ j : Nat, j < n ∧ z = conv + j ∧ ps.getD j 0 = 0) ∧ isH h0 h1 h2 z = false := by
  unfold freeX
  rw [List.mem_filter, zones_mem]
  simp
theorem Ri.hd {conv seq size : Int} {ps : List Int} {h0 h1 h2 : Int} (R : Ri conv seq size ps h0 h1 h2) {s : Nat} (hs : s < 3) : Pol.hd h0 h1 h2 s = 0 ∨ (conv ≤ Pol.hd h0 h1 h2 s ∧ Pol.hd h0 h1 h2 s < conv + seq ∧ ps.getD (Pol.hd h0 h1 h2 s - conv).toNat 0 < size) := by
  obtain rfl | rfl | rfl : s = 0 ∨ s = 1 ∨ s = 2 := by omega
  · exact R.in0
  · exact R.in1
  · exact R.in2
/-- a stream goes on in a zone with room -/
theorem Ri.pick {conv seq size : Int} {ps : List Int} {h0 h1 h2 : Int} (R : Ri conv seq size ps h0 h1 h2) (k : 0 < size) {s : Nat} (hs : s < 3) {z : Int} (h : Pol.pick conv ps h0 h1 h2 ps.length s = some z) :
    ∃ j : Nat, j < ps.length ∧ z = conv + j ∧ 0 ≤ ps.getD j 0 ∧ ps.getD j 0 < size := by
  have hl := R.len
  by_cases h0' : Pol.hd h0 h1 h2 s = 0
  · rw [pick_free h0'] at h
    have hm := List.mem_of_head? h
    obtain ⟨⟨j, h1', h2', h3⟩, _⟩ := free_mem.1 hm
    exact ⟨j, h1', h2', by omega, by omega⟩
  · rw [pick_head h0'] at h
    injection h with h
    subst h
    rcases R.hd hs with h | ⟨h1', h2', h3⟩
    · exact absurd h h0'
    · have hj : (Pol.hd h0 h1 h2 s - conv).toNat < ps.length := by omega
      exact ⟨_, hj, by omega, (R.pt (Pol.hd h0 h1 h2 s - conv).toNat _ (by simp [hj])).1, h3⟩
end Pol
end Go.Proofs.Ytbhcemipjfdemaa

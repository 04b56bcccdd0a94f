/-
  Pools: plain mathematics.
-/
import Derived.Test.YtbhcemipjfdemaaGeomM
import Derived.Test.YtbhcemipjfdemaaMem
namespace Go.Proofs.Ytbhcemipjfdemaa
namespace Pol
open Geom
set_option linter.unusedVariables false

/-- is a zone one of the heads? -/
def isH (h0 h1 h2 z : Int) : Bool := z == h0 || (z == h1 || z == h2)
def hasZ (xs : List Int) (z : Int) : Bool := xs.contains z
theorem isH_has (h0 h1 h2 z : Int) : hasZ [h0, h1, h2] z = isH h0 h1 h2 z := by rw [Bool.eq_iff_iff]; simp [isH, hasZ]
/-- is a zone one of the sequential ones, with room? -/
def roomB (conv size : Int) (ps : List Int) (z : Int) : Bool := decide (conv ≤ z) && (decide (z < conv + ps.length) && decide (ps.getD (z - conv).toNat 0 < size))
/-- a head: none, or with room, and unlike those ahead -/
def headB (conv size : Int) (ps : List Int) (z : Int) (before : List Int) : Bool := z == 0 || (roomB conv size ps z && !hasZ before z)
def headsB (conv size : Int) (ps : List Int) (h0 h1 h2 : Int) : Bool := headB conv size ps h0 [] && (headB conv size ps h1 [h0] && headB conv size ps h2 [h0, h1])
def usedI (size s x : Int) : Int := if s = 3 then size else x
def ixB (conv : Int) (n : Nat) (z : Int) : Bool := decide (conv ≤ z ∧ z < conv + n)
def ixV (conv : Int) (n : Nat) (z : Int) : Int := if conv ≤ z ∧ z < conv + n then z - conv else 0
theorem ix_yes {conv z : Int} {n : Nat} (h : conv ≤ z) (h' : z < conv + n) : ixV conv n z = z - conv ∧ ixB conv n z = true := ⟨if_pos ⟨h, h'⟩, decide_eq_true ⟨h, h'⟩⟩
theorem ix_no {conv z : Int} {n : Nat} (h : ¬ (conv ≤ z ∧ z < conv + n)) : ixV conv n z = 0 ∧ ixB conv n z = false := ⟨if_neg h, decide_eq_false h⟩
theorem ix_nat {conv z : Int} {n : Nat} (h : conv ≤ z ∧ z < conv + n) : ∃ j : Nat, j < n ∧ z = conv + j ∧ ixV conv n z = (j : Int) ∧ ixB conv n z = true :=
  ⟨(z - conv).toNat, by omega, by omega, by rw [(ix_yes h.1 h.2).1]; omega, (ix_yes h.1 h.2).2⟩
def partB (size x : Int) : Bool := x != 0 && x != size
def ptB (conv size : Int) (h0 h1 h2 : Int) (i : Nat) (x : Int) : Bool := decide (0 ≤ x) && (decide (x ≤ size) && (!partB size x || isH h0 h1 h2 (conv + i)))
/-- the points from the i-th on -/
def ptsB (conv size : Int) (h0 h1 h2 : Int) : Nat → List Int → Bool
  | _, [] => true
  | i, x :: xs => ptB conv size h0 h1 h2 i x && ptsB conv size h0 h1 h2 (i + 1) xs
def rightB (conv seq size : Int) (ps : List Int) (h0 h1 h2 : Int) : Bool := ((ps.length : Int) == seq) && (headsB conv size ps h0 h1 h2 && ptsB conv size h0 h1 h2 0 ps)

/-- the zones with a point, of the first k -/
def zonesX (conv : Int) (ps : List Int) (x : Int) : Nat → List Int
  | 0 => []
  | k + 1 => zonesX conv ps x k ++ (if ps.getD k 0 = x then [conv + k] else [])
theorem zones_yes {conv x : Int} {ps : List Int} {k : Nat} (h : ps.getD k 0 = x) : (zonesX conv ps x (k + 1)) = zonesX conv ps x k ++ [conv + k] ∧ (zonesX conv ps x k ++ [conv + k]).length = (zonesX conv ps x k).length + 1 := by
  rw [zonesX, if_pos h]
  exact ⟨rfl, by simp⟩
theorem zones_no {conv x : Int} {ps : List Int} {k : Nat} (h : ¬ ps.getD k 0 = x) : zonesX conv ps x (k + 1) = zonesX conv ps x k := by
  rw [zonesX, if_neg h, List.append_nil]
theorem zones_le (conv : Int) (ps : List Int) (x : Int) : ∀ k, (zonesX conv ps x k).length ≤ k
  | 0 => Nat.le_refl _
  | k + 1 => by
    have := zones_le conv ps x k
    rw [zonesX, List.length_append]
    split <;> simp <;> omega
/-- the free zones, of the first k -/
def freeX (conv : Int) (ps : List Int) (h0 h1 h2 : Int) (k : Nat) : List Int := (zonesX conv ps 0 k).filter fun z => !isH h0 h1 h2 z
theorem drop_at {α : Type} {xs : List α} {k : Nat} {x : α} (h : xs[k]? = some x) : xs.drop k = x :: xs.drop (k + 1) := by
  have hk : k < xs.length := by
    rcases Nat.lt_or_ge k xs.length with h' | h'
    · exact h'
    · rw [List.getElem?_eq_none h'] at h; cases h
  rw [List.drop_eq_getElem_cons hk]
  rw [List.getElem?_eq_getElem hk] at h
  injection h with h
  rw [h]
theorem pts_at {conv size h0 h1 h2 : Int} {ps : List Int} {k : Nat} {x : Int} (h : ps[k]? = some x) :
    ptsB conv size h0 h1 h2 k (ps.drop k) = (ptB conv size h0 h1 h2 k x && ptsB conv size h0 h1 h2 (k + 1) (ps.drop (k + 1))) := by
  rw [drop_at h]; rfl
theorem pts_end {conv size h0 h1 h2 : Int} {ps : List Int} : ptsB conv size h0 h1 h2 ps.length (ps.drop ps.length) = true := by
  rw [List.drop_length]; rfl

/-- what a right pool is -/
structure Ri (conv seq size : Int) (ps : List Int) (h0 h1 h2 : Int) : Prop where
  len : (ps.length : Int) = seq
  in0 : h0 = 0 ∨ (conv ≤ h0 ∧ h0 < conv + seq ∧ ps.getD (h0 - conv).toNat 0 < size)
  in1 : h1 = 0 ∨ (conv ≤ h1 ∧ h1 < conv + seq ∧ ps.getD (h1 - conv).toNat 0 < size)
  in2 : h2 = 0 ∨ (conv ≤ h2 ∧ h2 < conv + seq ∧ ps.getD (h2 - conv).toNat 0 < size)
  n01 : h0 = 0 ∨ h1 = 0 ∨ h0 ≠ h1
  n02 : h0 = 0 ∨ h2 = 0 ∨ h0 ≠ h2
  n12 : h1 = 0 ∨ h2 = 0 ∨ h1 ≠ h2
  pt : ∀ (i : Nat) (x : Int), ps[i]? = some x → 0 ≤ x ∧ x ≤ size ∧ (x = 0 ∨ x = size ∨ isH h0 h1 h2 (conv + i) = true)

theorem pts_iff {conv size h0 h1 h2 : Int} : ∀ (xs : List Int) (k : Nat), ptsB conv size h0 h1 h2 k xs = true ↔ ∀ (i : Nat) (x : Int), xs[i]? = some x → ptB conv size h0 h1 h2 (k + i) x = true
  | [], k => by simp [ptsB]
  | x :: xs, k => by
    rw [ptsB, Bool.and_eq_true, pts_iff xs (k + 1)]
    constructor
    · rintro ⟨h1, h2⟩ i y hy
      rcases i with _ | i
      · obtain rfl : x = y := by simpa using hy
        exact h1
      · have := h2 i y (by simpa using hy)
        rwa [show k + 1 + i = k + (i + 1) by omega] at this
    · intro h
      refine ⟨by simpa using h 0 x (by simp), fun i y hy => ?_⟩
      rw [show k + 1 + i = k + (i + 1) by omega]
      exact h (i + 1) y (by simpa using hy)
theorem head_iff {conv size z : Int} {ps : List Int} {before : List Int} {seq : Int} (hl : (ps.length : Int) = seq) : headB conv size ps z before = true ↔ z = 0 ∨ ((conv ≤ z ∧ z < conv + seq ∧ ps.getD (z - conv).toNat 0 < size) ∧ z ∉ before) := by
  subst hl
  simp [headB, roomB, hasZ, and_assoc]
theorem pt_iff {conv size h0 h1 h2 : Int} {i : Nat} {x : Int} : ptB conv size h0 h1 h2 i x = true ↔ 0 ≤ x ∧ x ≤ size ∧ (x = 0 ∨ x = size ∨ isH h0 h1 h2 (conv + i) = true) := by
  simp only [ptB, partB, Bool.and_eq_true, Bool.or_eq_true, decide_eq_true_eq, Bool.not_eq_true', Bool.and_eq_false_iff, bne_eq_false_iff_eq]
  constructor
  · rintro ⟨a, b, (c | c) | c⟩
    · exact ⟨a, b, .inl c⟩
    · exact ⟨a, b, .inr (.inl c)⟩
    · exact ⟨a, b, .inr (.inr c)⟩
  · rintro ⟨a, b, c | c | c⟩
    · exact ⟨a, b, .inl (.inl c)⟩
    · exact ⟨a, b, .inl (.inr c)⟩
    · exact ⟨a, b, .inr c⟩
theorem right_iff {conv seq size : Int} {ps : List Int} {h0 h1 h2 : Int} : rightB conv seq size ps h0 h1 h2 = true ↔ Ri conv seq size ps h0 h1 h2 := by
  unfold rightB headsB
  simp only [Bool.and_eq_true, beq_iff_eq]
  constructor
  · rintro ⟨hl, ⟨a, b, c⟩, d⟩
    rw [head_iff hl] at a b c
    rw [pts_iff] at d
    simp only [List.mem_cons, List.not_mem_nil, or_false, not_or, not_false_eq_true, and_true] at a b c
    refine ⟨hl, a, b.imp_right (·.1), c.imp_right (·.1), ?_, ?_, ?_, fun i x hx => ?_⟩
    · rcases b with b | b
      · exact .inr (.inl b)
      · exact .inr (.inr fun e => b.2 e.symm)
    · rcases c with c | c
      · exact .inr (.inl c)
      · exact .inr (.inr fun e => c.2.1 e.symm)
    · rcases c with c | c
      · exact .inr (.inl c)
      · exact .inr (.inr fun e => c.2.2 e.symm)
    · have := d i x hx
      rw [Nat.zero_add, pt_iff] at this
      exact this
  · rintro ⟨hl, a, b, c, d, e, f, g⟩
    refine ⟨hl, ⟨?_, ?_, ?_⟩, ?_⟩
    · rw [head_iff hl]; exact a.imp_right fun h => ⟨h, by simp⟩
    · rw [head_iff hl]
      by_cases hz : h1 = 0
      · exact .inl hz
      refine .inr ⟨b.resolve_left hz, ?_⟩
      simp only [List.mem_cons, List.not_mem_nil, or_false]
      rintro rfl
      rcases d with d | d | d
      · exact hz d
      · exact hz d
      · exact d rfl
    · rw [head_iff hl]
      by_cases hz : h2 = 0
      · exact .inl hz
      refine .inr ⟨c.resolve_left hz, ?_⟩
      simp only [List.mem_cons, List.not_mem_nil, or_false]
      rintro (rfl | rfl)
      · rcases e with d | d | d
        · exact hz d
        · exact hz d
        · exact d rfl
      · rcases f with d | d | d
        · exact hz d
        · exact hz d
        · exact d rfl
    · rw [pts_iff]
      intro i x hx
      rw [Nat.zero_add, pt_iff]
      exact g i x hx
end Pol
end Go.Proofs.Ytbhcemipjfdemaa

/-
  Pools: plain mathematics of steps and resets: what is right stays right; how many places a stream has.
-/
import Derived.Test.YtbhcemipjfdemaaPoN
import Derived.Test.YtbhcemipjfdemaaZoneM
namespace Go.Proofs.Ytbhcemipjfdemaa
namespace Pol
open Geom
set_option linter.unusedVariables false

theorem hd_set {h0 h1 h2 z : Int} {s t : Nat} (ht : t < 3) : hd (sH s 0 z h0) (sH s 1 z h1) (sH s 2 z h2) t = if s = t then z else hd h0 h1 h2 t := by
  obtain rfl | rfl | rfl : t = 0 ∨ t = 1 ∨ t = 2 := by omega
  · rfl
  · rfl
  · rfl
theorem isH_hd {h0 h1 h2 z : Int} : isH h0 h1 h2 z = true ↔ ∃ t, t < 3 ∧ hd h0 h1 h2 t = z := by
  simp only [isH, Bool.or_eq_true, beq_iff_eq]
  constructor
  · rintro (h | h | h)
    · exact ⟨0, by omega, h.symm⟩
    · exact ⟨1, by omega, h.symm⟩
    · exact ⟨2, by omega, h.symm⟩
  · rintro ⟨t, ht, h⟩
    obtain rfl | rfl | rfl : t = 0 ∨ t = 1 ∨ t = 2 := by omega
    · exact .inl h.symm
    · exact .inr (.inl h.symm)
    · exact .inr (.inr h.symm)
/-- a right pool, said of all streams -/
theorem ri_iff {conv seq size : Int} {ps : List Int} {h0 h1 h2 : Int} : Ri conv seq size ps h0 h1 h2 ↔ (ps.length : Int) = seq ∧
    (∀ t, t < 3 → hd h0 h1 h2 t = 0 ∨ (conv ≤ hd h0 h1 h2 t ∧ hd h0 h1 h2 t < conv + seq ∧ ps.getD (hd h0 h1 h2 t - conv).toNat 0 < size)) ∧
    (∀ t u, t < 3 → u < 3 → t ≠ u → hd h0 h1 h2 t = 0 ∨ hd h0 h1 h2 u = 0 ∨ hd h0 h1 h2 t ≠ hd h0 h1 h2 u) ∧
    (∀ (i : Nat) (x : Int), ps[i]? = some x → 0 ≤ x ∧ x ≤ size ∧ (x = 0 ∨ x = size ∨ ∃ t, t < 3 ∧ hd h0 h1 h2 t = conv + i)) := by
  constructor
  · intro R
    refine ⟨R.len, fun t ht => R.hd ht, fun t u ht hu hne => ?_, fun i x hx => ?_⟩
    · have h01 := R.n01
      have h02 := R.n02
      have h12 := R.n12
      obtain rfl | rfl | rfl : t = 0 ∨ t = 1 ∨ t = 2 := by omega
      all_goals
        obtain rfl | rfl | rfl : u = 0 ∨ u = 1 ∨ u = 2 := by omega
        all_goals simp only [hd0, hd1, hd2] at *
        all_goals omega
    · obtain ⟨a, b, c⟩ := R.pt i x hx
      refine ⟨a, b, ?_⟩
      rcases c with c | c | c
      · exact .inl c
      · exact .inr (.inl c)
      · exact .inr (.inr (isH_hd.1 c))
  · rintro ⟨a, b, c, d⟩
    refine ⟨a, b 0 (by omega), b 1 (by omega), b 2 (by omega), c 0 1 (by omega) (by omega) (by omega), c 0 2 (by omega) (by omega) (by omega), c 1 2 (by omega) (by omega) (by omega), fun i x hx => ?_⟩
    obtain ⟨e, f, g⟩ := d i x hx
    refine ⟨e, f, ?_⟩
    rcases g with g | g | g
    · exact .inl g
    · exact .inr (.inl g)
    · exact .inr (.inr (isH_hd.2 g))
/-- the head behind a step into zone z, whose point was x -/
def nxt (size x z : Int) : Int := if x + 1 = size then 0 else z
/-- stream s goes on in zone conv + j, whose point is x -/
structure Go1 (conv size : Int) (ps : List Int) (h0 h1 h2 : Int) (s j : Nat) (x : Int) : Prop where
  hs : s < 3
  pk : pick conv ps h0 h1 h2 ps.length s = some (conv + j)
  hj : j < ps.length
  hx : ps.getD j 0 = x
  x0 : 0 ≤ x
  x1 : x < size
theorem Ri.go {conv seq size : Int} {ps : List Int} {h0 h1 h2 : Int} (R : Ri conv seq size ps h0 h1 h2) (k : 0 < size) {s : Nat} (hs : s < 3) {z : Int} (h : Pol.pick conv ps h0 h1 h2 ps.length s = some z) :
    ∃ (j : Nat) (x : Int), z = conv + j ∧ Go1 conv size ps h0 h1 h2 s j x := by
  obtain ⟨j, h1', h2', h3', h4'⟩ := R.pick k hs h
  exact ⟨j, _, h2', hs, by rw [← h2']; exact h, h1', rfl, h3', h4'⟩
section
variable {conv seq size : Int} {ps : List Int} {h0 h1 h2 : Int} {s j : Nat} {x : Int}
/-- the zone is the stream's own head, or no one's -/
theorem Go1.own (G : Go1 conv size ps h0 h1 h2 s j x) (k0 : 0 < conv) : hd h0 h1 h2 s = conv + j ∨ (hd h0 h1 h2 s = 0 ∧ x = 0 ∧ ∀ t, t < 3 → hd h0 h1 h2 t ≠ conv + j) := by
  by_cases h : hd h0 h1 h2 s = 0
  · right
    have hp := G.pk
    rw [pick_free h] at hp
    obtain ⟨⟨j', a, b, c⟩, d⟩ := free_mem.1 (List.mem_of_head? hp)
    obtain rfl : j = j' := by omega
    refine ⟨h, G.hx.symm.trans c, fun t ht e => ?_⟩
    rw [isH_hd.2 ⟨t, ht, e⟩] at d
    cases d
  · left
    have hp := G.pk
    rw [pick_head h] at hp
    injection hp
theorem Go1.other (G : Go1 conv size ps h0 h1 h2 s j x) (R : Ri conv seq size ps h0 h1 h2) (k0 : 0 < conv) {t : Nat} (ht : t < 3) (hne : t ≠ s) : hd h0 h1 h2 t ≠ conv + j := by
  rcases G.own k0 with h | ⟨_, _, h⟩
  · intro e
    rcases (ri_iff.1 R).2.2.1 t s ht G.hs hne with h' | h' | h'
    · omega
    · omega
    · exact h' (e.trans h.symm)
  · exact h t ht
theorem getD_set {l : List Int} {j i : Nat} {y : Int} (hj : j < l.length) : (l.set j y).getD i 0 = if i = j then y else l.getD i 0 := by
  by_cases h : i = j
  · subst h
    simp [hj]
  · rw [if_neg h]
    simp [List.getD_eq_getElem?_getD, List.getElem?_set_ne (Ne.symm h)]
/-- a step keeps a pool right -/
theorem Go1.ri (G : Go1 conv size ps h0 h1 h2 s j x) (R : Ri conv seq size ps h0 h1 h2) (S : Some conv seq size) :
    Ri conv seq size (ps.set j (x + 1)) (sH s 0 (nxt size x (conv + j)) h0) (sH s 1 (nxt size x (conv + j)) h1) (sH s 2 (nxt size x (conv + j)) h2) := by
  obtain ⟨q1, q2, q3, q4, q5⟩ := S
  obtain ⟨a, b, c, d⟩ := ri_iff.1 R
  have hj := G.hj
  have hx0 := G.x0
  have hx1 := G.x1
  rw [ri_iff]
  refine ⟨by rw [List.length_set]; exact a, fun t ht => ?_, fun t u ht hu hne => ?_, fun i y hy => ?_⟩
  · rw [hd_set ht]
    by_cases hst : s = t
    · rw [if_pos hst]
      unfold nxt
      by_cases hf : x + 1 = size
      · rw [if_pos hf]; exact .inl rfl
      · rw [if_neg hf]
        right
        rw [show (conv + (j : Int) - conv).toNat = j by omega, getD_set hj, if_pos rfl]
        omega
    · rw [if_neg hst]
      rcases b t ht with h | ⟨h1', h2', h3'⟩
      · exact .inl h
      · right
        have hne := G.other R (by omega) ht (Ne.symm hst)
        rw [getD_set hj, if_neg (by omega)]
        exact ⟨h1', h2', h3'⟩
  · rw [hd_set ht, hd_set hu]
    have hn : ∀ v, v < 3 → v ≠ s → hd h0 h1 h2 v = 0 ∨ hd h0 h1 h2 v ≠ conv + j := fun v hv hvs => .inr (G.other R (by omega) hv hvs)
    have hnx : nxt size x (conv + j) = 0 ∨ nxt size x (conv + j) = conv + j := by unfold nxt; split <;> simp
    by_cases h1' : s = t
    · rw [if_pos h1', if_neg (by omega)]
      have := G.other R (by omega) hu (by omega)
      omega
    · rw [if_neg h1']
      by_cases h2' : s = u
      · rw [if_pos h2']
        have := G.other R (by omega) ht (by omega)
        omega
      · rw [if_neg h2']
        exact c t u ht hu hne
  · have hi : i < ps.length := by
      rcases Nat.lt_or_ge i ps.length with h | h
      · exact h
      · rw [List.getElem?_eq_none (by rw [List.length_set]; exact h)] at hy; cases hy
    have hyv : y = (ps.set j (x + 1)).getD i 0 := by rw [List.getD_eq_getElem?_getD, hy]; rfl
    rw [getD_set hj] at hyv
    by_cases hij : i = j
    · subst hij
      rw [if_pos rfl] at hyv
      subst hyv
      refine ⟨by omega, by omega, ?_⟩
      by_cases hf : x + 1 = size
      · exact .inr (.inl hf)
      · refine .inr (.inr ⟨s, G.hs, ?_⟩)
        rw [hd_set G.hs, if_pos rfl]
        exact if_neg hf
    · rw [if_neg hij] at hyv
      obtain ⟨e, f, g⟩ := d i y (by rw [hyv]; simp [hi])
      refine ⟨e, f, ?_⟩
      rcases g with g | g | ⟨t, ht, g⟩
      · exact .inl g
      · exact .inr (.inl g)
      · refine .inr (.inr ⟨t, ht, ?_⟩)
        have hst : s ≠ t := by
          rintro rfl
          rcases G.own (by omega) with h | ⟨h, _, _⟩ <;> omega
        rw [hd_set ht, if_neg hst]
        exact g
/-- a reset keeps a pool right -/
theorem Ri.reset (R : Ri conv seq size ps h0 h1 h2) (S : Some conv seq size) (hj : j < ps.length) (hx : ps.getD j 0 = size) : Ri conv seq size (ps.set j 0) h0 h1 h2 := by
  obtain ⟨q1, q2, q3, q4, q5⟩ := S
  obtain ⟨a, b, c, d⟩ := ri_iff.1 R
  rw [ri_iff]
  refine ⟨by rw [List.length_set]; exact a, fun t ht => ?_, c, fun i y hy => ?_⟩
  · rcases b t ht with h | ⟨h1', h2', h3'⟩
    · exact .inl h
    · right
      rw [getD_set hj]
      refine ⟨h1', h2', ?_⟩
      split <;> omega
  · have hi : i < ps.length := by
      rcases Nat.lt_or_ge i ps.length with h | h
      · exact h
      · rw [List.getElem?_eq_none (by rw [List.length_set]; exact h)] at hy; cases hy
    have hyv : y = (ps.set j 0).getD i 0 := by rw [List.getD_eq_getElem?_getD, hy]; rfl
    rw [getD_set hj] at hyv
    by_cases hij : i = j
    · rw [if_pos hij] at hyv
      exact ⟨by omega, by omega, .inl hyv⟩
    · rw [if_neg hij] at hyv
      exact d i y (by rw [hyv]; simp [hi])
/-- how many free zones there are, of the first k -/
def nfr (conv : Int) (ps : List Int) (h0 h1 h2 : Int) (k : Nat) : Nat := (freeX conv ps h0 h1 h2 k).length
theorem nfr_succ (k : Nat) : nfr conv ps h0 h1 h2 (k + 1) = nfr conv ps h0 h1 h2 k + (if ps.getD k 0 = 0 ∧ isH h0 h1 h2 (conv + k) = false then 1 else 0) := by
  unfold nfr freeX
  rw [zonesX, List.filter_append, List.length_append]
  congr 1
  by_cases h : ps.getD k 0 = 0
  · rw [if_pos h]
    cases hh : isH h0 h1 h2 (conv + k)
    · rw [if_pos ⟨h, rfl⟩]; simp [hh]
    · rw [if_neg (by simp)]; simp [hh]
  · rw [if_neg h, if_neg (by simp only [h, false_and, not_false_eq_true])]; rfl
theorem isH_keep (G : Go1 conv size ps h0 h1 h2 s j x) (k0 : 0 < conv) {i : Nat} (hne : i ≠ j) :
    isH (sH s 0 (nxt size x (conv + j)) h0) (sH s 1 (nxt size x (conv + j)) h1) (sH s 2 (nxt size x (conv + j)) h2) (conv + i) = isH h0 h1 h2 (conv + i) := by
  rw [Bool.eq_iff_iff, isH_hd, isH_hd]
  have hnx : nxt size x (conv + j) = 0 ∨ nxt size x (conv + j) = conv + j := by unfold nxt; split <;> simp
  constructor
  · rintro ⟨t, ht, h⟩
    rw [hd_set ht] at h
    by_cases hst : s = t
    · rw [if_pos hst] at h
      omega
    · rw [if_neg hst] at h
      exact ⟨t, ht, h⟩
  · rintro ⟨t, ht, h⟩
    refine ⟨t, ht, ?_⟩
    rw [hd_set ht]
    have hst : s ≠ t := by
      rintro rfl
      rcases G.own k0 with h' | ⟨h', _, _⟩ <;> omega
    rw [if_neg hst]
    exact h
/-- a step into a free zone uses up one free zone; into a head, none -/
theorem Go1.nfr (G : Go1 conv size ps h0 h1 h2 s j x) (k0 : 0 < conv) : ∀ k : Nat,
    Pol.nfr conv (ps.set j (x + 1)) (sH s 0 (nxt size x (conv + j)) h0) (sH s 1 (nxt size x (conv + j)) h1) (sH s 2 (nxt size x (conv + j)) h2) k + (if j < k ∧ hd h0 h1 h2 s = 0 then 1 else 0) = Pol.nfr conv ps h0 h1 h2 k
  | 0 => by simp [Pol.nfr, freeX, zonesX]
  | k + 1 => by
    have ih := G.nfr k0 k
    rw [nfr_succ, nfr_succ]
    have hx0 := G.x0
    by_cases hkj : k = j
    · subst hkj
      rw [if_neg (by simp : ¬ (k < k ∧ hd h0 h1 h2 s = 0))] at ih
      rw [getD_set G.hj, if_pos rfl, if_neg (by omega : ¬ (x + 1 = 0 ∧ _)), G.hx]
      rcases G.own k0 with h | ⟨h, hx, h'⟩
      · rw [if_neg (by rintro ⟨_, h2'⟩; omega), if_neg (by rintro ⟨_, h2'⟩; rw [isH_hd.2 ⟨s, G.hs, h⟩] at h2'; cases h2')]
        omega
      · have hf : isH h0 h1 h2 (conv + k) = false := by
          cases hc : isH h0 h1 h2 (conv + k)
          · rfl
          · obtain ⟨t, ht, e⟩ := isH_hd.1 hc
            exact absurd e (h' t ht)
        rw [if_pos ⟨by omega, h⟩, if_pos ⟨hx, hf⟩]
        omega
    · rw [getD_set G.hj, if_neg hkj, isH_keep G k0 hkj]
      have e : (j < k + 1 ∧ hd h0 h1 h2 s = 0) ↔ (j < k ∧ hd h0 h1 h2 s = 0) := by
        constructor <;> rintro ⟨a, b⟩ <;> exact ⟨by omega, b⟩
      simp only [e]
      omega
/-- how many places a stream has -/
def rem (conv size : Int) (ps : List Int) (h0 h1 h2 : Int) (s : Nat) : Int :=
  (if hd h0 h1 h2 s = 0 then 0 else size - ps.getD (hd h0 h1 h2 s - conv).toNat 0) + size * (nfr conv ps h0 h1 h2 ps.length : Int)
theorem Go1.rem (G : Go1 conv size ps h0 h1 h2 s j x) (S : Some conv seq size) :
    Pol.rem conv size (ps.set j (x + 1)) (sH s 0 (nxt size x (conv + j)) h0) (sH s 1 (nxt size x (conv + j)) h1) (sH s 2 (nxt size x (conv + j)) h2) s = Pol.rem conv size ps h0 h1 h2 s - 1 := by
  obtain ⟨q1, q2, q3, q4, q5⟩ := S
  have hn := G.nfr (by omega) ps.length
  have hx0 := G.x0
  have hx1 := G.x1
  unfold Pol.rem
  rw [hd_set G.hs, if_pos rfl, List.length_set]
  have hroom : (if nxt size x (conv + ↑j) = 0 then 0 else size - (ps.set j (x + 1)).getD (nxt size x (conv + ↑j) - conv).toNat 0) = size - (x + 1) := by
    unfold nxt
    by_cases hf : x + 1 = size
    · rw [if_pos hf, if_pos rfl]; omega
    · rw [if_neg hf, if_neg (by omega), show (conv + (j : Int) - conv).toNat = j by omega, getD_set G.hj, if_pos rfl]
  rw [hroom]
  rcases G.own (by omega) with h | ⟨h, hx, _⟩
  · rw [if_neg (by rintro ⟨_, h2'⟩; omega)] at hn
    rw [h, if_neg (by omega), show (conv + (j : Int) - conv).toNat = j by omega, G.hx, ← hn]
    simp only [Nat.add_zero]
    omega
  · rw [if_pos ⟨G.hj, h⟩] at hn
    rw [if_pos h, ← hn, hx]
    rw [show ((Pol.nfr conv (ps.set j (0 + 1)) (sH s 0 (nxt size 0 (conv + ↑j)) h0) (sH s 1 (nxt size 0 (conv + ↑j)) h1) (sH s 2 (nxt size 0 (conv + ↑j)) h2) ps.length + 1 : Nat) : Int) = (Pol.nfr conv (ps.set j (0 + 1)) (sH s 0 (nxt size 0 (conv + ↑j)) h0) (sH s 1 (nxt size 0 (conv + ↑j)) h1) (sH s 2 (nxt size 0 (conv + ↑j)) h2) ps.length : Int) + 1 by omega, Int.mul_add]
    omega
/-- no place is left just where there is neither a head nor a free zone -/
theorem Ri.rem_none (R : Ri conv seq size ps h0 h1 h2) (S : Some conv seq size) (hs : s < 3) (h : Pol.pick conv ps h0 h1 h2 ps.length s = none) : rem conv size ps h0 h1 h2 s = 0 := by
  by_cases h' : Pol.hd h0 h1 h2 s = 0
  · rw [pick_free h', List.head?_eq_none_iff] at h
    unfold rem nfr
    rw [if_pos h', h]
    simp
  · rw [pick_head h'] at h
    cases h
theorem Ri.rem_zero (R : Ri conv seq size ps h0 h1 h2) (S : Some conv seq size) (hs : s < 3) (h : rem conv size ps h0 h1 h2 s = 0) : Pol.hd h0 h1 h2 s = 0 ∧ freeX conv ps h0 h1 h2 ps.length = [] := by
  obtain ⟨q1, q2, q3, q4, q5⟩ := S
  unfold rem at h
  have hm : 0 ≤ size * (nfr conv ps h0 h1 h2 ps.length : Int) := Int.mul_nonneg (by omega) (by omega)
  have hnn : size * (nfr conv ps h0 h1 h2 ps.length : Int) = 0 → freeX conv ps h0 h1 h2 ps.length = [] := by
    intro e
    rcases Int.mul_eq_zero.1 e with e | e
    · omega
    · exact List.eq_nil_of_length_eq_zero (by unfold nfr at e; omega)
  by_cases h' : Pol.hd h0 h1 h2 s = 0
  · rw [if_pos h'] at h
    exact ⟨h', hnn (by omega)⟩
  · rw [if_neg h'] at h
    rcases R.hd hs with h'' | ⟨_, _, h3⟩
    · exact absurd h'' h'
    · omega
end
end Pol
end Go.Proofs.Ytbhcemipjfdemaa

/-
  Package lane: plain mathematics of plans: the places that the streams get, one by one; how many zones so many places take.
-/
import Derived.Test.YtbhcemipjfdemaaPoV
namespace Go.Proofs.Ytbhcemipjfdemaa
namespace Pol
open Geom
set_option linter.unusedVariables false

/-- a pool: its points, its heads -/
structure PS where
  ps : List Int
  h0 : Int
  h1 : Int
  h2 : Int
/-- a step of stream s: the place, the pool then -/
def stp (conv size : Int) (p : PS) (s : Nat) : Option ((Int × Int) × PS) :=
  match pick conv p.ps p.h0 p.h1 p.h2 p.ps.length s with
  | none => none
  | some z => some ((z, p.ps.getD (z - conv).toNat 0), ⟨p.ps.set (z - conv).toNat (p.ps.getD (z - conv).toNat 0 + 1),
      sH s 0 (nxt size (p.ps.getD (z - conv).toNat 0) z) p.h0, sH s 1 (nxt size (p.ps.getD (z - conv).toNat 0) z) p.h1, sH s 2 (nxt size (p.ps.getD (z - conv).toNat 0) z) p.h2⟩)
/-- the places of streams, in order; the pool then -/
def planX (conv size : Int) : List Nat → PS → Option (List (Int × Int) × PS)
  | [], p => some ([], p)
  | s :: ss, p => match stp conv size p s with
    | none => none
    | some aq => match planX conv size ss aq.2 with
      | none => none
      | some r => some (aq.1 :: r.1, r.2)
theorem plan_append (conv size : Int) (xs bs : List Nat) (p : PS) : planX conv size (xs ++ bs) p = match planX conv size xs p with
    | none => none
    | some r => match planX conv size bs r.2 with
      | none => none
      | some u => some (r.1 ++ u.1, u.2) := by
  induction xs generalizing p with
  | nil =>
    show planX conv size bs p = _
    simp only [planX]
    cases planX conv size bs p <;> rfl
  | cons s xs ih =>
    show planX conv size (s :: (xs ++ bs)) p = _
    simp only [planX]
    cases stp conv size p s with
    | none => rfl
    | some aq =>
      simp only [ih]
      cases planX conv size xs aq.2 with
      | none => rfl
      | some r =>
        simp only
        cases planX conv size bs r.2 <;> rfl
/-- one stream more -/
theorem plan_more {conv size : Int} {ss : List Nat} {k s : Nat} {p q q' : PS} {l : List (Int × Int)} {a : Int × Int} (h : planX conv size (ss.take k) p = some (l, q)) (hs : ss[k]? = some s) (h' : stp conv size q s = some (a, q')) :
    planX conv size (ss.take (k + 1)) p = some (l ++ [a], q') := by
  have e : ss.take (k + 1) = ss.take k ++ [s] := by rw [List.take_add_one, hs]; rfl
  rw [e, plan_append, h]
  simp only [planX, h']
theorem plan_stop {conv size : Int} {ss : List Nat} {k s : Nat} {p q : PS} {l : List (Int × Int)} (h : planX conv size (ss.take k) p = some (l, q)) (hs : ss[k]? = some s) (h' : stp conv size q s = none) :
    planX conv size ss p = none := by
  have hk : k < ss.length := by
    rcases Nat.lt_or_ge k ss.length with h | h
    · exact h
    · rw [List.getElem?_eq_none h] at hs; cases hs
  have hs' : ss[k] = s := by rw [List.getElem?_eq_getElem hk] at hs; injection hs
  have e : ss = ss.take k ++ (s :: ss.drop (k + 1)) := by
    rw [← hs', ← List.drop_eq_getElem_cons hk, List.take_append_drop]
  rw [e, plan_append, h]
  simp only [planX, h']
/-- a right pool -/
def Rt (conv seq size : Int) (p : PS) : Prop := Ri conv seq size p.ps p.h0 p.h1 p.h2
/-- what a stream's head has left; how many zones are free; the sectors that are used -/
def rm (conv size : Int) (p : PS) (s : Nat) : Int := if hd p.h0 p.h1 p.h2 s = 0 then 0 else size - p.ps.getD (hd p.h0 p.h1 p.h2 s - conv).toNat 0
def fr (conv : Int) (p : PS) : Nat := nfr conv p.ps p.h0 p.h1 p.h2 p.ps.length
def usd (p : PS) : Int := p.ps.sum
section
variable {conv seq size : Int} {p q : PS} {s : Nat} {a : Int × Int}
theorem Rt.rm0 (R : Rt conv seq size p) (S : Some conv seq size) (hs : s < 3) : 0 ≤ rm conv size p s ∧ rm conv size p s ≤ size ∧ (rm conv size p s = 0 ↔ hd p.h0 p.h1 p.h2 s = 0) := by
  obtain ⟨q1, q2, q3, q4, q5⟩ := S
  unfold rm
  by_cases h : hd p.h0 p.h1 p.h2 s = 0
  · rw [if_pos h]
    exact ⟨by omega, by omega, by simp [h]⟩
  · rw [if_neg h]
    rcases Ri.hd R hs with h' | ⟨h1', h2', h3'⟩
    · exact absurd h' h
    have hl := Ri.len R
    have hj : (hd p.h0 p.h1 p.h2 s - conv).toNat < p.ps.length := by omega
    have hx := Ri.pt R (hd p.h0 p.h1 p.h2 s - conv).toNat (p.ps.getD (hd p.h0 p.h1 p.h2 s - conv).toNat 0) (by simp [hj])
    exact ⟨by omega, by omega, by constructor <;> intro <;> omega⟩
/-- a step, by its zone -/
theorem stp_go (R : Rt conv seq size p) (S : Some conv seq size) (hs : s < 3) (h : stp conv size p s = some (a, q)) :
    ∃ (j : Nat) (x : Int), Go1 conv size p.ps p.h0 p.h1 p.h2 s j x ∧ a = (conv + j, x) ∧ q = ⟨p.ps.set j (x + 1), sH s 0 (nxt size x (conv + j)) p.h0, sH s 1 (nxt size x (conv + j)) p.h1, sH s 2 (nxt size x (conv + j)) p.h2⟩ := by
  unfold stp at h
  cases hp : pick conv p.ps p.h0 p.h1 p.h2 p.ps.length s with
  | none => rw [hp] at h; cases h
  | some z =>
    rw [hp] at h
    obtain ⟨j, x, rfl, G⟩ := Ri.go R (by have := S.2.2.2.1; omega) hs hp
    simp only [show (conv + (j : Int) - conv).toNat = j by omega, G.hx, Option.some.injEq, Prod.mk.injEq] at h
    obtain ⟨rfl, rfl⟩ := h
    exact ⟨j, x, G, rfl, rfl⟩
theorem stp_is (R : Rt conv seq size p) {j : Nat} {x : Int} (G : Go1 conv size p.ps p.h0 p.h1 p.h2 s j x) :
    stp conv size p s = some ((conv + j, x), ⟨p.ps.set j (x + 1), sH s 0 (nxt size x (conv + j)) p.h0, sH s 1 (nxt size x (conv + j)) p.h1, sH s 2 (nxt size x (conv + j)) p.h2⟩) := by
  unfold stp
  rw [G.pk]
  simp only [show (conv + (j : Int) - conv).toNat = j by omega, G.hx]
theorem stp_rt (R : Rt conv seq size p) (S : Some conv seq size) (hs : s < 3) (h : stp conv size p s = some (a, q)) : Rt conv seq size q ∧ q.ps.length = p.ps.length := by
  obtain ⟨j, x, G, rfl, rfl⟩ := stp_go R S hs h
  exact ⟨G.ri R S, by simp⟩
theorem sum_set {l : List Int} {j : Nat} {y : Int} (hj : j < l.length) : (l.set j y).sum = l.sum + y - l.getD j 0 := by
  induction l generalizing j with
  | nil => simp at hj
  | cons a l ih =>
    rcases j with _ | j
    · simp; omega
    · have := ih (j := j) (by simpa using hj)
      simp only [List.set_cons_succ, List.sum_cons, List.getD_cons_succ] at *
      omega
/-- what a step takes -/
theorem stp_takes (R : Rt conv seq size p) (S : Some conv seq size) (hs : s < 3) (h : stp conv size p s = some (a, q)) :
    ((0 < rm conv size p s ∧ fr conv q = fr conv p ∧ rm conv size q s = rm conv size p s - 1) ∨ (rm conv size p s = 0 ∧ fr conv q + 1 = fr conv p ∧ rm conv size q s = size - 1)) ∧
    (∀ t, t < 3 → t ≠ s → rm conv size q t = rm conv size p t) ∧ usd q = usd p + 1 := by
  obtain ⟨j, x, G, rfl, rfl⟩ := stp_go R S hs h
  have hS := S
  obtain ⟨q1, q2, q3, q4, q5⟩ := S
  have hn := G.nfr (by omega) p.ps.length
  have hx0 := G.x0
  have hx1 := G.x1
  have hroom : rm conv size ⟨p.ps.set j (x + 1), sH s 0 (nxt size x (conv + j)) p.h0, sH s 1 (nxt size x (conv + j)) p.h1, sH s 2 (nxt size x (conv + j)) p.h2⟩ s = size - (x + 1) := by
    unfold rm
    simp only [hd_set hs, if_true]
    unfold nxt
    by_cases hf : x + 1 = size
    · rw [if_pos hf, if_pos rfl]; omega
    · rw [if_neg hf, if_neg (by omega), show (conv + (j : Int) - conv).toNat = j by omega, getD_set G.hj, if_pos rfl]
  refine ⟨?_, fun t ht hne => ?_, ?_⟩
  · rw [hroom]
    simp only [fr, List.length_set]
    rcases G.own (by omega) with h' | ⟨h', hx, _⟩
    · left
      have e : rm conv size p s = size - x := by
        unfold rm
        rw [if_neg (by omega), h', show (conv + (j : Int) - conv).toNat = j by omega, G.hx]
      rw [if_neg (by rintro ⟨_, h2'⟩; omega)] at hn
      exact ⟨by omega, by omega, by omega⟩
    · right
      rw [if_pos ⟨G.hj, h'⟩] at hn
      exact ⟨(Rt.rm0 R hS hs).2.2.2 h', by omega, by omega⟩
  · have hneq := G.other R (by omega) ht hne
    unfold rm
    simp only [hd_set ht, if_neg (Ne.symm hne)]
    by_cases h0' : hd p.h0 p.h1 p.h2 t = 0
    · rw [if_pos h0', if_pos h0']
    · rw [if_neg h0', if_neg h0', getD_set G.hj, if_neg]
      rcases Ri.hd R ht with h' | ⟨_, _, _⟩
      · exact absurd h' h0'
      · omega
  · simp only [usd, sum_set G.hj, G.hx]
    omega
theorem stp_none (R : Rt conv seq size p) (S : Some conv seq size) (hs : s < 3) (h : stp conv size p s = none) : rm conv size p s = 0 ∧ fr conv p = 0 := by
  unfold stp at h
  cases hp : pick conv p.ps p.h0 p.h1 p.h2 p.ps.length s with
  | none =>
    have h' : hd p.h0 p.h1 p.h2 s = 0 := by
      by_cases h' : hd p.h0 p.h1 p.h2 s = 0
      · exact h'
      · rw [pick_head h'] at hp; cases hp
    refine ⟨(Rt.rm0 R S hs).2.2.2 h', ?_⟩
    rw [pick_free h', List.head?_eq_none_iff] at hp
    unfold fr nfr
    rw [hp]
    rfl
  | some z => rw [hp] at h; cases h
/-- what is used is not more than there is -/
theorem Rt.usd_le (R : Rt conv seq size p) (S : Some conv seq size) : 0 ≤ usd p ∧ usd p ≤ seq * size := by
  have hl := Ri.len R
  have hp := fun i x h => (Ri.pt R i x h)
  have key : ∀ l : List Int, (∀ x ∈ l, 0 ≤ x ∧ x ≤ size) → 0 ≤ l.sum ∧ l.sum ≤ (l.length : Int) * size := by
    intro l
    induction l with
    | nil => intro _; simp
    | cons a l ih =>
      intro h
      have h1' := ih fun x hx => h x (List.mem_cons_of_mem _ hx)
      have h2' := h a List.mem_cons_self
      rw [List.sum_cons, List.length_cons, Int.natCast_succ, Int.add_mul, Int.one_mul]
      omega
  have := key p.ps fun x hx => by
    obtain ⟨i, hi⟩ := List.getElem?_of_mem hx
    exact ⟨(hp i x hi).1, (hp i x hi).2.1⟩
  rw [hl] at this
  exact this
/-- a plan keeps a pool right; it uses as many sectors as it has streams -/
theorem plan_rt (S : Some conv seq size) : ∀ (ss : List Nat) (p : PS), Rt conv seq size p → (∀ s ∈ ss, s < 3) → ∀ (l : List (Int × Int)) (q : PS), planX conv size ss p = some (l, q) →
    Rt conv seq size q ∧ q.ps.length = p.ps.length ∧ l.length = ss.length ∧ usd q = usd p + ss.length
  | [], p, R, _, l, q, h => by
    simp only [planX, Option.some.injEq, Prod.mk.injEq] at h
    obtain ⟨rfl, rfl⟩ := h
    exact ⟨R, rfl, rfl, by simp⟩
  | s :: ss, p, R, hs, l, q, h => by
    simp only [planX] at h
    cases h1' : stp conv size p s with
    | none => rw [h1'] at h; cases h
    | some aq =>
      obtain ⟨a, q1⟩ := aq
      rw [h1'] at h
      simp only at h
      cases h2' : planX conv size ss q1 with
      | none => rw [h2'] at h; cases h
      | some r =>
        obtain ⟨l2, q2⟩ := r
        rw [h2'] at h
        simp only [Option.some.injEq, Prod.mk.injEq] at h
        obtain ⟨rfl, rfl⟩ := h
        have hs3 := hs s List.mem_cons_self
        obtain ⟨R1, e1⟩ := stp_rt R S hs3 h1'
        obtain ⟨R2, e2, e3, e4⟩ := plan_rt S ss q1 R1 (fun t ht => hs t (List.mem_cons_of_mem _ ht)) _ _ h2'
        have e5 := (stp_takes R S hs3 h1').2.2
        exact ⟨R2, e2.trans e1, by simp [e3], by rw [e4, e5, List.length_cons]; omega⟩
theorem plan_le (S : Some conv seq size) {ss : List Nat} (R : Rt conv seq size p) (hs : ∀ s ∈ ss, s < 3) {l : List (Int × Int)} (h : planX conv size ss p = some (l, q)) : (ss.length : Int) ≤ seq * size := by
  obtain ⟨R1, _, _, h1⟩ := plan_rt S ss p R hs l q h
  have a := Rt.usd_le R S
  have b := Rt.usd_le R1 S
  omega
end
/-- how many zones n places take, of a head that has room -/
def need (size room n : Int) : Int := if n ≤ room then 0 else (n - room - 1) / size + 1
theorem need_nn {size room n : Int} (h : 0 < size) : 0 ≤ need size room n := by
  unfold need
  split
  · omega
  · have := Int.ediv_nonneg (a := n - room - 1) (b := size) (by omega) (by omega)
    omega
theorem need_room {size room : Int} {n : Nat} (h : 0 < room) : need size room ((n : Int) + 1) = need size (room - 1) n := by
  unfold need
  by_cases h' : (n : Int) + 1 ≤ room
  · rw [if_pos h', if_pos (by omega)]
  · rw [if_neg h', if_neg (by omega), show (n : Int) + 1 - room - 1 = n - (room - 1) - 1 by omega]
theorem need_zone {size : Int} {n : Nat} (h : 0 < size) : need size 0 ((n : Int) + 1) = need size (size - 1) n + 1 := by
  unfold need
  rw [if_neg (by omega), show (n : Int) + 1 - 0 - 1 = n by omega]
  by_cases h' : (n : Int) ≤ size - 1
  · rw [if_pos h', Int.ediv_eq_zero_of_lt (by omega) (by omega)]
  · rw [if_neg h', show (n : Int) - (size - 1) - 1 = n - size by omega]
    have e := Int.add_mul_ediv_right ((n : Int) - size) 1 (c := size) (by omega)
    rw [show (n : Int) - size + 1 * size = n by omega] at e
    omega
theorem need_mono {size room : Int} {m n : Int} (h : 0 < size) (hm : m ≤ n) : need size room m ≤ need size room n := by
  unfold need
  by_cases h1 : m ≤ room
  · rw [if_pos h1]
    have := need_nn (size := size) (room := room) (n := n) h
    unfold need at this
    exact this
  · rw [if_neg h1, if_neg (by omega)]
    have := Int.ediv_le_ediv (a := m - room - 1) (b := n - room - 1) (c := size) h (by omega)
    omega
theorem need_one {size room n : Int} (h : 0 < size) (hr : 0 ≤ room) (hn : n ≤ size) : need size room n ≤ 1 := by
  unfold need
  split
  · omega
  · rw [Int.ediv_eq_zero_of_lt (by omega) (by omega)]
    omega
/-- a plan of n places of one stream -/
theorem plan_rep {conv seq size : Int} (S : Some conv seq size) {s : Nat} (hs : s < 3) : ∀ (n : Nat) (p : PS), Rt conv seq size p →
    (planX conv size (List.replicate n s) p = none → (fr conv p : Int) < need size (rm conv size p s) n) ∧
    (∀ l q, planX conv size (List.replicate n s) p = some (l, q) → need size (rm conv size p s) n + fr conv q = fr conv p ∧ rm conv size q s = rm conv size p s + need size (rm conv size p s) n * size - n ∧ ∀ t, t < 3 → t ≠ s → rm conv size q t = rm conv size p t)
  | 0, p, R => by
    obtain ⟨r0, _, _⟩ := Rt.rm0 R S hs
    have e : need size (rm conv size p s) ((0 : Nat) : Int) = 0 := if_pos (by omega)
    rw [e]
    refine ⟨fun h => (by cases h), fun l q h => ?_⟩
    simp only [List.replicate_zero, planX, Option.some.injEq, Prod.mk.injEq] at h
    obtain ⟨rfl, rfl⟩ := h
    exact ⟨by omega, by simp, fun t _ _ => rfl⟩
  | n + 1, p, R => by
    have q4 : 0 < size := by have := S.2.2.2.1; omega
    obtain ⟨r0, r1, _⟩ := Rt.rm0 R S hs
    rw [List.replicate_succ]
    simp only [planX]
    cases h1' : stp conv size p s with
    | none =>
      obtain ⟨e1, e2⟩ := stp_none R S hs h1'
      refine ⟨fun _ => ?_, fun l q h => (by cases h)⟩
      rw [e1, e2, Int.natCast_succ, need_zone q4]
      have := need_nn (size := size) (room := size - 1) (n := (n : Int)) q4
      omega
    | some aq =>
      obtain ⟨a, q1⟩ := aq
      obtain ⟨R1, _⟩ := stp_rt R S hs h1'
      obtain ⟨e, eo, _⟩ := stp_takes R S hs h1'
      obtain ⟨i1, i2⟩ := plan_rep S hs n q1 R1
      have en : need size (rm conv size p s) ((n + 1 : Nat) : Int) + fr conv q1 = need size (rm conv size q1 s) n + fr conv p ∧ rm conv size p s + need size (rm conv size p s) ((n + 1 : Nat) : Int) * size - ((n + 1 : Nat) : Int) = rm conv size q1 s + need size (rm conv size q1 s) n * size - n := by
        rw [Int.natCast_succ]
        rcases e with ⟨e1, e2, e3⟩ | ⟨e1, e2, e3⟩
        · rw [need_room e1, e2, e3]
          exact ⟨rfl, by omega⟩
        · rw [e1, need_zone q4, e3, Int.add_mul]
          exact ⟨by omega, by omega⟩
      refine ⟨fun h => ?_, fun l q h => ?_⟩
      · have h3 : planX conv size (List.replicate n s) q1 = none := by
          cases h2' : planX conv size (List.replicate n s) q1 with
          | none => rfl
          | some r => simp only [h2'] at h; cases h
        have := i1 h3
        omega
      · simp only at h
        cases h2' : planX conv size (List.replicate n s) q1 with
        | none => rw [h2'] at h; cases h
        | some r =>
          obtain ⟨l2, q2⟩ := r
          rw [h2'] at h
          simp only [Option.some.injEq, Prod.mk.injEq] at h
          obtain ⟨rfl, rfl⟩ := h
          obtain ⟨j1, j2, j3⟩ := i2 _ _ h2'
          exact ⟨by omega, by omega, fun t ht hne => (j3 t ht hne).trans (eo t ht hne)⟩
end Pol
end Go.Proofs.Ytbhcemipjfdemaa

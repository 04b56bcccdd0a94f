/-
  Package lane: plain mathematics of the laws: what fits, what can be moved.
-/
import Derived.Test.YtbhcemipjfdemaaLaE
namespace Go.Proofs.Ytbhcemipjfdemaa
namespace Pol
open Geom
set_option linter.unusedVariables false

/-- places of one stream, and then places of Log -/
theorem plan_two {conv seq size : Int} (S : Some conv seq size) {s : Nat} (hs : s < 2) (a b : Nat) (p : PS) (R : Rt conv seq size p) :
    (planX conv size (List.replicate a s ++ List.replicate b 2) p = none → (fr conv p : Int) < need size (rm conv size p s) a + need size (rm conv size p 2) b) ∧
    (∀ l q, planX conv size (List.replicate a s ++ List.replicate b 2) p = some (l, q) → Rt conv seq size q ∧ need size (rm conv size p s) a + need size (rm conv size p 2) b + fr conv q = fr conv p ∧ rm conv size q 2 = rm conv size p 2 + need size (rm conv size p 2) b * size - b) := by
  have q4 : 0 < size := by have := S.2.2.2.1; omega
  obtain ⟨i1, i2⟩ := plan_rep S (by omega : s < 3) a p R
  rw [plan_append]
  cases h1 : planX conv size (List.replicate a s) p with
  | none =>
    have := i1 h1
    have h2 := need_nn (size := size) (room := rm conv size p 2) (n := (b : Int)) q4
    exact ⟨fun _ => by omega, fun l q h => by cases h⟩
  | some r =>
    obtain ⟨l1, q1⟩ := r
    obtain ⟨j1, j2, j3⟩ := i2 l1 q1 h1
    have R1 := (plan_rt S _ p R (fun x hx => by rw [List.eq_of_mem_replicate hx]; omega) l1 q1 h1).1
    obtain ⟨k1, k2⟩ := plan_rep S (by omega : 2 < 3) b q1 R1
    have e2 := j3 2 (by omega) (by omega)
    rw [e2] at k1 k2
    simp only
    cases h2 : planX conv size (List.replicate b 2) q1 with
    | none =>
      have := k1 h2
      exact ⟨fun _ => by omega, fun l q h => by cases h⟩
    | some u =>
      obtain ⟨l2, q2⟩ := u
      obtain ⟨m1, m2, _⟩ := k2 l2 q2 h2
      refine ⟨fun h => (by cases h), fun l q h => ?_⟩
      simp only [Option.some.injEq, Prod.mk.injEq] at h
      obtain ⟨rfl, rfl⟩ := h
      have R2 := (plan_rt S _ q1 R1 (fun x hx => by rw [List.eq_of_mem_replicate hx]; omega) l2 q2 h2).1
      exact ⟨R2, by omega, m2⟩
theorem fits_less {conv seq size : Int} (S : Some conv seq size) {p : PS} (R : Rt conv seq size p) {a c b : Nat} (hc : c ≤ a) (h : fitsB conv size p a b = true) : fitsB conv size p c b = true := by
  have q4 : 0 < size := by have := S.2.2.2.1; omega
  obtain ⟨_, i2⟩ := plan_two S (s := 0) (by omega) a b p R
  obtain ⟨j1, j2⟩ := plan_two S (s := 0) (by omega) c b p R
  have hmono := need_mono (size := size) (room := rm conv size p 0) (m := (c : Int)) (n := (a : Int)) q4 (by omega)
  cases h1 : planX conv size (List.replicate a 0 ++ List.replicate b 2) p with
  | none => rw [fits_none h1] at h; cases h
  | some r =>
    obtain ⟨l, q⟩ := r
    rw [fits_some h1, decide_eq_true_eq] at h
    obtain ⟨_, k1, k2⟩ := i2 l q h1
    cases h2 : planX conv size (List.replicate c 0 ++ List.replicate b 2) p with
    | none =>
      have := j1 h2
      omega
    | some u =>
      obtain ⟨l', q'⟩ := u
      obtain ⟨_, m1, m2⟩ := j2 l' q' h2
      rw [fits_some h2, decide_eq_true_eq]
      have e : keepN conv size q' = keepN conv size q := by unfold keepN; rw [m2, k2]
      omega
/-- where as many zones are free as must stay so, a zone that is not wholly live can be moved -/
theorem keep_moves {conv seq size : Int} (S : Some conv seq size) {p : PS} (R : Rt conv seq size p) {n : Nat} (hn : (n : Int) < size) (h : keepN conv size p ≤ (fr conv p : Int)) : movesB conv size p n = true := by
  have q4 : 0 < size := by have := S.2.2.2.1; omega
  obtain ⟨i1, _⟩ := plan_two S (s := 1) (by omega) n 1 p R
  obtain ⟨r0, _, _⟩ := Rt.rm0 R S (s := 1) (by omega)
  obtain ⟨r2, _, _⟩ := Rt.rm0 R S (s := 2) (by omega)
  have n1 := need_one (size := size) (room := rm conv size p 1) (n := (n : Int)) q4 r0 (by omega)
  have n2 := need_one (size := size) (room := rm conv size p 2) (n := ((1 : Nat) : Int)) q4 r2 (by omega)
  unfold movesB
  cases h1 : planX conv size (List.replicate n 1 ++ List.replicate 1 2) p with
  | some r => rfl
  | none =>
    have h2 := i1 h1
    unfold keepN at h
    by_cases h3 : 0 < rm conv size p 2
    · rw [if_pos h3] at h
      have : need size (rm conv size p 2) ((1 : Nat) : Int) = 0 := if_pos (by omega)
      omega
    · rw [if_neg h3] at h
      omega
theorem fits_moves {conv seq size : Int} (S : Some conv seq size) {p : PS} (R : Rt conv seq size p) {a b n : Nat} (hn : (n : Int) < size) (h : fitsB conv size p a b = true) :
    ∃ l q, planX conv size (List.replicate a 0 ++ List.replicate b 2) p = some (l, q) ∧ Rt conv seq size q ∧ movesB conv size q n = true := by
  cases h1 : planX conv size (List.replicate a 0 ++ List.replicate b 2) p with
  | none => rw [fits_none h1] at h; cases h
  | some r =>
    obtain ⟨l, q⟩ := r
    rw [fits_some h1, decide_eq_true_eq] at h
    have R2 := ((plan_two S (s := 0) (by omega) a b p R).2 l q h1).1
    exact ⟨l, q, rfl, R2, keep_moves S R2 hn h⟩
end Pol
end Go.Proofs.Ytbhcemipjfdemaa

/-
  Candidates in memory: their cells, lists of them.
-/
import Derived.Test.YtndjjgabfmplcaaProg
import Derived.Test.YtndjjgabfmplcaaPiM
import Derived.Test.YtndjjgabfmplcaaBig
import Derived.Test.YtndjjgabfmplcaaClass
import Derived.IntWalk
import Derived.OpenShut
import Derived.Test.YtndjjgabfmplcaaOpen
namespace Go.Proofs.Ytndjjgabfmplcaa
open Go.RowKit Pick
set_option linter.unusedVariables false

/-- a candidate's cells -/
abbrev kcs (c : Cd) : List Value := [.int .i64 c.z, .int .i64 c.l, .int .i64 c.a]
def kls (l : List Cd) : List Value := l.flatMap kcs
theorem kls_cons (x : Cd) (l : List Cd) : kls (x :: l) = kcs x ++ kls l := rfl
theorem kls_append (l r : List Cd) : kls (l ++ r) = kls l ++ kls r := by simp [kls]
theorem kls_length (l : List Cd) : (kls l).length = l.length * 3 := by
  induction l with
  | nil => rfl
  | cons x l ih =>
    rw [kls_cons, List.length_append, ih]
    simp [kcs]
    omega
theorem kls_one (l : List Cd) : ∀ u ∈ kls l, u.oneCell' = true := by
  intro u hu
  obtain ⟨x, _, hu⟩ := List.mem_flatMap.1 hu
  simp [kcs] at hu
  rcases hu with rfl | rfl | rfl <;> rfl
theorem kls_at {l : List Cd} {k j : Nat} {x : Cd} {v : Value} (hk : l[k]? = some x) (hv : (kcs x)[j]? = some v) : (kls l)[k * 3 + j]? = some v := by
  induction l generalizing k with
  | nil => simp at hk
  | cons y l ih =>
    rw [kls_cons]
    cases k with
    | zero =>
      obtain rfl : y = x := by simpa using hk
      have hj : j < (kcs y).length := (List.getElem?_eq_some_iff.1 hv).1
      rw [Nat.zero_mul, Nat.zero_add, List.getElem?_append_left hj]
      exact hv
    | succ k =>
      have hx : (kcs y).length = 3 := rfl
      rw [List.getElem?_append_right (by omega), hx, show (k + 1) * 3 + j - 3 = k * 3 + j by omega]
      exact ih (by simpa using hk)
theorem kls_take (l : List Cd) (k : Nat) : kls (l.take k) = (kls l).take (k * 3) := by
  induction l generalizing k with
  | nil => simp [kls]
  | cons x l ih =>
    cases k with
    | zero => simp [kls]
    | succ k =>
      rw [List.take_succ_cons, kls_cons, kls_cons, ih, show (k + 1) * 3 = k * 3 + 1 + 1 + 1 by omega]
      rfl
theorem kls_drop (l : List Cd) (k : Nat) : kls (l.drop k) = (kls l).drop (k * 3) := by
  induction l generalizing k with
  | nil => simp [kls]
  | cons x l ih =>
    cases k with
    | zero => simp [kls]
    | succ k =>
      rw [List.drop_succ_cons, kls_cons, ih, show (k + 1) * 3 = k * 3 + 1 + 1 + 1 by omega]
      rfl
theorem off_add (a : Addr) (j : Nat) (hj : j ≠ 0) : (⟨a.block, a.off + j, none⟩ : Addr) = a.add j := by
  unfold Addr.add
  rw [if_neg hj]
theorem cand_at {w : World} {B : Nat} {A : Option Addr} {l : List Cd} {k : Nat} {x : Cd} (h : Rd w B A (kls l)) (hk : l[k]? = some x) :
    ∃ ad, A = some ad ∧ ad.block < B ∧ w.cell? (ad.add (k * 3)) = some (.int .i64 x.z) ∧ w.cell? ⟨(ad.add (k * 3)).block, (ad.add (k * 3)).off + 1, none⟩ = some (.int .i64 x.l) ∧ w.cell? ⟨(ad.add (k * 3)).block, (ad.add (k * 3)).off + 2, none⟩ = some (.int .i64 x.a) := by
  obtain ⟨ad, rfl, hb, hc⟩ := h.at (kls_at hk (j := 0) (v := .int .i64 x.z) rfl)
  refine ⟨ad, rfl, hb, hc, ?_, ?_⟩
  · rw [off_add _ 1 (by decide), addr_add_add]
    obtain ⟨ad2, e2, _, h2⟩ := h.at (kls_at hk (j := 1) (v := .int .i64 x.l) rfl)
    obtain rfl : ad = ad2 := by injection e2
    exact h2
  · rw [off_add _ 2 (by decide), addr_add_add]
    obtain ⟨ad2, e2, _, h2⟩ := h.at (kls_at hk (j := 2) (v := .int .i64 x.a) rfl)
    obtain rfl : ad = ad2 := by injection e2
    exact h2
theorem elemK : Elem Try.prog 29 23 (.agg #[.int .i64 0, .int .i64 0, .int .i64 0]) 3 24 := .of Try.underlying29 (by kernel_rfl) rfl (by omega)
theorem cand_size (x : Cd) : (Try.prog.info? 23).map (·.size) = some (kcs x).length := by
  show _ = some 3
  kernel_rfl
theorem Box.kd {w : World} {b : Nat} {T : TypeId} {x : Cd} (h : Box w b T (kcs x)) : w.cell? ⟨b, 0, none⟩ = some (.int .i64 x.z) ∧ w.cell? ⟨b, 1, none⟩ = some (.int .i64 x.l) ∧ w.cell? ⟨b, 2, none⟩ = some (.int .i64 x.a) := ⟨h.cell 0, h.cell 1, h.cell 2⟩
end Go.Proofs.Ytndjjgabfmplcaa

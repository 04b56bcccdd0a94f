/-
  Package pool: are the heads right; is a pool right; the room of a head.
-/
import Derived.Test.YtbhcemipjfdemaaPoB
namespace Go.Proofs.Ytbhcemipjfdemaa
open Go.RowKit Geom Leaf Pol
set_option linter.unusedVariables false

/-- a point of the points -/
theorem Rd.point {w : World} {B k : Nat} {A : Option Addr} {ps : List Int} (h : Rd w B A (is ps)) (hk : k < ps.length) :
    ∃ ad, A = some ad ∧ ad.block < B ∧ w.cell? (ad.add k) = some (.int .i64 (ps.getD k 0)) := h.at (is_get hk)
theorem idx3_0 (h0 h1 h2 : Int) (w : World) : (Instr.index 25 (.agg #[.int .i64 h0, .int .i64 h1, .int .i64 h2]) (.int .i64 0)).run Try.prog w = .ok (.int .i64 h0) w :=
  run_index_is w 25 3 3 [h0, h1, h2] 0 Try.underlying25 Try.underlying3 size_int rfl (by omega)
theorem idx3_1 (h0 h1 h2 : Int) (w : World) : (Instr.index 25 (.agg #[.int .i64 h0, .int .i64 h1, .int .i64 h2]) (.int .i64 1)).run Try.prog w = .ok (.int .i64 h1) w :=
  run_index_is w 25 3 3 [h0, h1, h2] 1 Try.underlying25 Try.underlying3 size_int rfl (by omega)
theorem idx3_2 (h0 h1 h2 : Int) (w : World) : (Instr.index 25 (.agg #[.int .i64 h0, .int .i64 h1, .int .i64 h2]) (.int .i64 2)).run Try.prog w = .ok (.int .i64 h2) w :=
  run_index_is w 25 3 3 [h0, h1, h2] 2 Try.underlying25 Try.underlying3 size_int rfl (by omega)
theorem scontains_q (A : Option Addr) (n cap : Nat) (xs : List Int) (z : Int) (w : World) (hm : n ≤ maxLen) (hn : xs.length = n) (B : Nat) (hr : Rd w B A (is xs)) :
    Calls Try.prog 50 #[.slice A n cap, .int .i64 z] w fun e w' => e = .returned (.bool (hasZ xs z)) ∧ w' = w :=
  (scontains_any A n cap xs z w hm hn B hr).mono fun _ _ h => ⟨h.1, h.2.symm⟩
theorem head_zero {conv size : Int} {ps : List Int} {z : Int} {b : List Int} (h : z = 0) : headB conv size ps z b = true := by simp [headB, h]
theorem head_out {conv size : Int} {ps : List Int} {z : Int} {b : List Int} (h : z ≠ 0) (h' : ¬ (conv ≤ z ∧ z < conv + ps.length)) : headB conv size ps z b = false := by
  simp only [headB, roomB]
  simp [h]
  intro h1 h2
  exact absurd ⟨h1, h2⟩ h'
theorem head_in {conv size : Int} {ps : List Int} {z : Int} {b : List Int} {j : Nat} (h : z ≠ 0) (hj : j < ps.length) (hz : z = conv + j) : headB conv size ps z b = (decide (ps.getD j 0 < size) && !hasZ b z) := by
  have e : (z - conv).toNat = j := by omega
  have h1 : conv ≤ z := by omega
  have h2 : z < conv + ps.length := by omega
  simp [headB, roomB, h, e, h1, h2]
theorem heads_no0 {conv size h0 h1 h2 : Int} {ps : List Int} (h : headB conv size ps h0 [] = false) : headsB conv size ps h0 h1 h2 = false := by simp [headsB, h]
theorem heads_no1 {conv size h0 h1 h2 : Int} {ps : List Int} (h : headB conv size ps h1 [h0] = false) : headsB conv size ps h0 h1 h2 = false := by simp [headsB, h]
theorem heads_no2 {conv size h0 h1 h2 : Int} {ps : List Int} (h : headB conv size ps h2 [h0, h1] = false) : headsB conv size ps h0 h1 h2 = false := by simp [headsB, h]

theorem pt_neg {conv size h0 h1 h2 x : Int} {i : Nat} (h : ¬ 0 ≤ x) : ptB conv size h0 h1 h2 i x = false := by simp [ptB, h]
theorem pt_big {conv size h0 h1 h2 x : Int} {i : Nat} (h : ¬ x ≤ size) : ptB conv size h0 h1 h2 i x = false := by simp [ptB, h]
theorem pt_mid {conv size h0 h1 h2 x : Int} {i : Nat} (h : 0 ≤ x) (h' : x ≤ size) : ptB conv size h0 h1 h2 i x = (!partB size x || isH h0 h1 h2 (conv + i)) := by simp [ptB, h, h']
end Go.Proofs.Ytbhcemipjfdemaa

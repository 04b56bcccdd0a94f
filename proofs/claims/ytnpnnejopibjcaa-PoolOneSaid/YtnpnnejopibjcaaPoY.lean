/-
  Layer 11's laws: a step, a reset, a room by the program and by the document's answer, said as one.
-/
import Derived.Test.YtnpnnejopibjcaaPoX
namespace Go.Proofs.Ytnpnnejopibjcaa
open Go.RowKit Geom Leaf Pol Zone
set_option linter.unusedVariables false

section
variable (conv soft seq size opn : Int) (n : Nat) (ps : List Int) (h0 h1 h2 : Int) (s : Nat)
theorem both_step (hm : n ≤ 64) (hn : ps.length = n) (S : Some conv seq size) (R : Ri conv seq size ps h0 h1 h2) (hs : s < 3) :
    ∃ (z x : Int) (qs : List Int) (k0 k1 k2 : Int) (ok : Bool), qs.length = n ∧ Ri conv seq size qs k0 k1 k2 ∧
      (∀ (w : World) (A : Option Addr) (cap : Nat), Rd w w.heap.size A (is ps) → Calls Try.prog 16 #[pgv conv soft seq size opn, ppv A n cap h0 h1 h2, .int .i64 s] w fun e w' => ∃ g c, e = .returned (.tuple #[.agg #[.int .i64 z, .int .i64 x], ppv (some ⟨g, 0, none⟩) n c k0 k1 k2, .bool ok]) ∧ w'.ownsRow w.heap.size 3 1 (.slice (some ⟨g, 0, none⟩) n c) n (is qs) ∧ Below w.heap.size w w') ∧
      (∀ (w : World) (A : Option Addr) (cap : Nat), Rd w w.heap.size A (is ps) → Calls Try.prog 17 #[pgv conv soft seq size opn, ppv A n cap h0 h1 h2, .int .i64 s] w fun e w' => ∃ A' c, e = .returned (.tuple #[.agg #[.int .i64 z, .int .i64 x], ppv A' n c k0 k1 k2, .bool ok]) ∧ Rd w' w'.heap.size A' (is qs) ∧ Below w.heap.size w w') := by
  cases hp : pick conv ps h0 h1 h2 n s with
  | none =>
    refine ⟨0, 0, ps, h0, h1, h2, false, hn, R, fun w A cap hr => pstep_none conv soft seq size opn A n cap ps h0 h1 h2 s w hm hn S R hr hs hp, fun w A cap hr => ?_⟩
    exact (rpstep_pick conv soft seq size opn A n cap ps h0 h1 h2 s w hm hn S R hr hs hp).mono fun e w' h => ⟨A, cap, h.1, (hr.below h.2).more h.2.size, h.2⟩
  | some z =>
    rw [← hn] at hp
    obtain ⟨j, x, rfl, G⟩ := R.go (by have := S.2.2.2.1; omega) hs hp
    refine ⟨conv + j, x, _, _, _, _, true, by rw [List.length_set]; exact hn, G.ri R S, fun w A cap hr => pstep_go conv soft seq size opn A n cap ps h0 h1 h2 s j x w hm hn S R hr G, fun w A cap hr => ?_⟩
    exact (rpstep_go conv soft seq size opn A n cap ps h0 h1 h2 s j x w hm hn S R hr G).mono fun e w' ⟨A', c, h1', h2', h3'⟩ => ⟨A', c, h1', Rd.own h2', h3'⟩
theorem both_reset (z : Int) (kz : z < 9223372036854775808) (hm : n ≤ 64) (hn : ps.length = n) (S : Some conv seq size) (R : Ri conv seq size ps h0 h1 h2) :
    ∃ (qs : List Int) (ok : Bool), qs.length = n ∧ Ri conv seq size qs h0 h1 h2 ∧
      (∀ (w : World) (A : Option Addr) (cap : Nat), Rd w w.heap.size A (is ps) → Calls Try.prog 18 #[pgv conv soft seq size opn, ppv A n cap h0 h1 h2, .int .i64 z] w fun e w' => ∃ g c, e = .returned (.tuple #[ppv (some ⟨g, 0, none⟩) n c h0 h1 h2, .bool ok]) ∧ w'.ownsRow w.heap.size 3 1 (.slice (some ⟨g, 0, none⟩) n c) n (is qs) ∧ Below w.heap.size w w') ∧
      (∀ (w : World) (A : Option Addr) (cap : Nat), Rd w w.heap.size A (is ps) → Calls Try.prog 19 #[pgv conv soft seq size opn, ppv A n cap h0 h1 h2, .int .i64 z] w fun e w' => ∃ A' c, e = .returned (.tuple #[ppv A' n c h0 h1 h2, .bool ok]) ∧ Rd w' w'.heap.size A' (is qs) ∧ Below w.heap.size w w') := by
  have hl := R.len
  rw [hn] at hl
  by_cases hz : conv ≤ z ∧ z < conv + n
  · obtain ⟨j, hj, rfl, _, _⟩ := ix_nat hz
    by_cases hx : ps.getD j 0 = size
    · refine ⟨ps.set j 0, true, by rw [List.length_set]; exact hn, R.reset S (by omega) hx, fun w A cap hr => preset_yes conv soft seq size opn A n cap ps h0 h1 h2 j w hm hn S R hr hj hx, fun w A cap hr => ?_⟩
      exact (rpreset_yes conv soft seq size opn A n cap ps h0 h1 h2 j hj hx w hm hn S hl hr).mono fun e w' ⟨A', c, h1', h2', h3'⟩ => ⟨A', c, h1', Rd.own h2', h3'⟩
    · refine ⟨ps, false, hn, R, fun w A cap hr => preset_no conv soft seq size opn A n cap ps h0 h1 h2 j w hm hn S R hr hj hx, fun w A cap hr => ?_⟩
      exact (rpreset_no conv soft seq size opn A n cap ps h0 h1 h2 j hj hx w hm hn S hl hr).mono fun e w' h => ⟨A, cap, h.1, (hr.below h.2).more h.2.size, h.2⟩
  · refine ⟨ps, false, hn, R, fun w A cap hr => preset_out conv soft seq size opn A n cap ps h0 h1 h2 z kz w hm hn S R hr hz, fun w A cap hr => ?_⟩
    by_cases hlo : z < conv
    · exact (rpreset_low conv soft seq size opn A n cap ps h0 h1 h2 z hlo w hm hn S hl hr).mono fun e w' h => ⟨A, cap, h.1, (hr.below h.2).more h.2.size, h.2⟩
    · exact (rpreset_high conv soft seq size opn A n cap ps h0 h1 h2 z (by omega) w hm hn S hl hr).mono fun e w' h => ⟨A, cap, h.1, (hr.below h.2).more h.2.size, h.2⟩
theorem both_room (hm : n ≤ 64) (hn : ps.length = n) (S : Some conv seq size) (R : Ri conv seq size ps h0 h1 h2) (hs : s < 3) :
    ∃ r : Int, (r = if hd h0 h1 h2 s = 0 then 0 else size - ps.getD (hd h0 h1 h2 s - conv).toNat 0) ∧ 0 ≤ r ∧ r ≤ size ∧
      (∀ (w : World) (A : Option Addr) (cap : Nat), Rd w w.heap.size A (is ps) → Calls Try.prog 24 #[pgv conv soft seq size opn, ppv A n cap h0 h1 h2, .int .i64 s] w fun e w' => e = .returned (.int .i64 r) ∧ Below w.heap.size w w') ∧
      (∀ (w : World) (A : Option Addr) (cap : Nat), Rd w w.heap.size A (is ps) → Calls Try.prog 24 #[pgv conv soft seq size opn, ppv A n cap h0 h1 h2, .int .i64 s] w fun e w' => e = .returned (.int .i64 r) ∧ Below w.heap.size w w') := by
  have hl := R.len
  by_cases hh : hd h0 h1 h2 s = 0
  · exact ⟨0, by rw [if_pos hh], by omega, by have := S.2.2.2.1; omega, fun w A cap _ => proom_no conv soft seq size opn A n cap h0 h1 h2 s w hm S hs hh, fun w A cap _ => proom_no conv soft seq size opn A n cap h0 h1 h2 s w hm S hs hh⟩
  · rcases R.hd hs with h | ⟨h1', h2', h3'⟩
    · exact absurd h hh
    have hj : (hd h0 h1 h2 s - conv).toNat < n := by omega
    have hx := (R.pt (hd h0 h1 h2 s - conv).toNat (ps.getD (hd h0 h1 h2 s - conv).toNat 0) (by simp [hn, hj]))
    refine ⟨size - ps.getD (hd h0 h1 h2 s - conv).toNat 0, by rw [if_neg hh], by omega, by omega, fun w A cap hr => ?_, fun w A cap hr => ?_⟩
    · exact proom_head conv soft seq size opn A n cap ps h0 h1 h2 s _ w hm hn S hs hj (by omega) hx.1 hx.2.1 hr
    · exact proom_head conv soft seq size opn A n cap ps h0 h1 h2 s _ w hm hn S hs hj (by omega) hx.1 hx.2.1 hr
theorem both_rroom (hm : n ≤ 64) (hn : ps.length = n) (S : Some conv seq size) (R : Ri conv seq size ps h0 h1 h2) (hs : s < 3) :
    ∀ (w : World) (A : Option Addr) (cap : Nat), Rd w w.heap.size A (is ps) → Calls Try.prog 25 #[pgv conv soft seq size opn, ppv A n cap h0 h1 h2, .int .i64 s] w fun e w' => e = .returned (.int .i64 (if hd h0 h1 h2 s = 0 then 0 else size - ps.getD (hd h0 h1 h2 s - conv).toNat 0)) ∧ Below w.heap.size w w' := by
  have hl := R.len
  intro w A cap hr
  by_cases hh : hd h0 h1 h2 s = 0
  · rw [if_pos hh]
    exact rproom_no conv soft seq size opn A n cap h0 h1 h2 s w hs hh
  · rw [if_neg hh]
    rcases R.hd hs with h | ⟨h1', h2', h3'⟩
    · exact absurd h hh
    have hj : (hd h0 h1 h2 s - conv).toNat < n := by omega
    have hx := (R.pt (hd h0 h1 h2 s - conv).toNat (ps.getD (hd h0 h1 h2 s - conv).toNat 0) (by simp [hn, hj]))
    exact rproom_head conv soft seq size opn A n cap ps h0 h1 h2 s _ w hm hn S hs hj (by omega) hx.1 hx.2.1 hr
end
/-- of a right pool no head is used up -/
theorem full_eq {conv seq size : Int} {ps : List Int} {h0 h1 h2 : Int} (R : Ri conv seq size ps h0 h1 h2) (S : Some conv seq size) : zonF conv ps size h0 h1 h2 ps.length = zonesX conv ps size ps.length := by
  unfold zonF
  rw [List.filter_eq_self]
  intro z hz
  obtain ⟨j, hj, rfl, hx⟩ := zones_mem.1 hz
  cases hh : isH h0 h1 h2 (conv + j)
  · rfl
  · obtain ⟨t, ht, e⟩ := isH_hd.1 hh
    obtain ⟨q1, q2, q3, q4, q5⟩ := S
    rcases R.hd ht with h | ⟨_, _, h⟩
    · omega
    · rw [e, show (conv + (j : Int) - conv).toNat = j by omega] at h
      omega
end Go.Proofs.Ytnpnnejopibjcaa

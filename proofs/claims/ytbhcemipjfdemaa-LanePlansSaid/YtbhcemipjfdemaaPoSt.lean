/-
  Pools: a step, a reset, a room by the program and by the document's answer, said as one; a pool as an argument.
-/
import Derived.Test.YtbhcemipjfdemaaPoT
import Derived.Test.YtbhcemipjfdemaaPoV
import Derived.Test.YtbhcemipjfdemaaIsa
import Derived.Deep.RegionHeld3
namespace Go.Proofs.Ytbhcemipjfdemaa
open Go.RowKit Geom Leaf Pol Zone
open Go.ChangeShapes Go.WideShapes
set_option linter.unusedVariables false

def MeetP (A : Nat → Nat → Nat → Nat → Act) (R : World → Nat → Nat → Prop) : Exit → Act → World → Prop
  | .normal, a, w => ∃ b g gz cz, R w b g ∧ a = A b g gz cz
  | _, _, _ => False
theorem wp_meetP {P : Program} {c : Code} {Q : Exit → Act → World → Prop} {a : Act} {w : World} {A : Nat → Nat → Nat → Nat → Act} (R : World → Nat → Nat → Prop) (h : c.wp P (MeetP A R) a w) (h2 : ∀ w' b g gz cz, R w' b g → Q .normal (A b g gz cz) w') : c.wp P Q a w :=
  Code.wp_mono (fun e a' w' hm => by
    cases e <;> first | exact (hm : False).elim | (obtain ⟨b, g, gz, cz, hr, rfl⟩ := (hm : ∃ b g gz cz, R w' b g ∧ a' = A b g gz cz); exact h2 _ b g gz cz hr)) h
section
variable (conv soft seq size opn : Int) (A : Option Addr) (n cap : Nat) (ps : List Int) (h0 h1 h2 : Int) (s : Nat)
theorem pstep_go (j : Nat) (x : Int) (w : World) (hm : n ≤ 64) (hn : ps.length = n) (S : Some conv seq size) (R : Ri conv seq size ps h0 h1 h2) (hr : Rd w w.heap.size A (is ps)) (G : Go1 conv size ps h0 h1 h2 s j x) :
    Calls Try.prog 29 #[pgv conv soft seq size opn, ppv A n cap h0 h1 h2, .int .i64 s] w fun e w' => ∃ g c, e = .returned (.tuple #[.agg #[.int .i64 (conv + j), .int .i64 x], ppv (some ⟨g, 0, none⟩) n c (sH s 0 (nxt size x (conv + j)) h0) (sH s 1 (nxt size x (conv + j)) h1) (sH s 2 (nxt size x (conv + j)) h2), .bool true]) ∧ w'.ownsRow w.heap.size 3 1 (.slice (some ⟨g, 0, none⟩) n c) n (is (ps.set j (x + 1))) ∧ Below w.heap.size w w' := by
  have hp := G.pk
  rw [hn] at hp
  have hj := G.hj
  rw [hn] at hj
  by_cases hf : x + 1 = size
  · have e : nxt size x (conv + j) = 0 := if_pos hf
    rw [e]
    exact pstep_full conv soft seq size opn A n cap ps h0 h1 h2 s j x w hm hn S R hr G.hs hp hj G.hx G.x0 G.x1 hf
  · have e : nxt size x (conv + j) = conv + j := if_neg hf
    rw [e]
    exact pstep_more conv soft seq size opn A n cap ps h0 h1 h2 s j x w hm hn S R hr G.hs hp hj G.hx G.x0 G.x1 hf
theorem pstep_is {z : Int} {qs : List Int} {k0 k1 k2 : Int} (j : Nat) (x : Int) (w : World) (hm : n ≤ 64) (hn : ps.length = n) (S : Some conv seq size) (R : Ri conv seq size ps h0 h1 h2) (hr : Rd w w.heap.size A (is ps)) (G : Go1 conv size ps h0 h1 h2 s j x)
    (hz : conv + j = z) (hq : ps.set j (x + 1) = qs) (e0 : sH s 0 (nxt size x (conv + j)) h0 = k0) (e1 : sH s 1 (nxt size x (conv + j)) h1 = k1) (e2 : sH s 2 (nxt size x (conv + j)) h2 = k2) :
    Calls Try.prog 29 #[pgv conv soft seq size opn, ppv A n cap h0 h1 h2, .int .i64 s] w fun e w' => ∃ g c, e = .returned (.tuple #[.agg #[.int .i64 z, .int .i64 x], ppv (some ⟨g, 0, none⟩) n c k0 k1 k2, .bool true]) ∧ w'.ownsRow w.heap.size 3 1 (.slice (some ⟨g, 0, none⟩) n c) n (is qs) ∧ Below w.heap.size w w' := by
  subst hz hq e0 e1 e2
  exact pstep_go conv soft seq size opn A n cap ps h0 h1 h2 s j x w hm hn S R hr G
theorem rpstep_go (j : Nat) (x : Int) (w : World) (hm : n ≤ 64) (hn : ps.length = n) (S : Some conv seq size) (R : Ri conv seq size ps h0 h1 h2) (hr : Rd w w.heap.size A (is ps)) (G : Go1 conv size ps h0 h1 h2 s j x) :
    Calls Try.prog 30 #[pgv conv soft seq size opn, ppv A n cap h0 h1 h2, .int .i64 s] w fun e w' => ∃ A' c, e = .returned (.tuple #[.agg #[.int .i64 (conv + j), .int .i64 x], ppv A' n c (sH s 0 (nxt size x (conv + j)) h0) (sH s 1 (nxt size x (conv + j)) h1) (sH s 2 (nxt size x (conv + j)) h2), .bool true]) ∧ w'.ownsRow w.heap.size 3 1 (.slice A' n c) n (is (ps.set j (x + 1))) ∧ Below w.heap.size w w' := by
  have hp := G.pk
  rw [hn] at hp
  have hj := G.hj
  rw [hn] at hj
  have hl := R.len
  rw [hn] at hl
  have hf0 : hd h0 h1 h2 s = conv + j ∨ (hd h0 h1 h2 s = 0 ∧ ∃ zs, freeX conv ps h0 h1 h2 n = (conv + j) :: zs) := by
    by_cases h : hd h0 h1 h2 s = 0
    · rw [pick_free h] at hp
      cases hf : freeX conv ps h0 h1 h2 n with
      | nil => rw [hf] at hp; cases hp
      | cons y ys =>
        rw [hf] at hp
        exact .inr ⟨h, ys, by rw [show y = conv + j by simpa using hp]⟩
    · rw [pick_head h] at hp
      exact .inl (by injection hp)
  by_cases hf : x + 1 = size
  · have e : nxt size x (conv + j) = 0 := if_pos hf
    rw [e]
    rcases hf0 with h | ⟨h, zs, hz⟩
    · exact rpstep_head_full conv soft seq size opn A n cap ps h0 h1 h2 s j x w hm hn S hl G.hs hr h hj G.hx G.x0 G.x1 hf
    · exact rpstep_free_full conv soft seq size opn A n cap ps h0 h1 h2 s j x w hm hn S hl G.hs hr h zs hz hj G.hx G.x0 G.x1 hf
  · have e : nxt size x (conv + j) = conv + j := if_neg hf
    rw [e]
    rcases hf0 with h | ⟨h, zs, hz⟩
    · exact rpstep_head_more conv soft seq size opn A n cap ps h0 h1 h2 s j x w hm hn S hl G.hs hr h hj G.hx G.x0 G.x1 hf
    · exact rpstep_free_more conv soft seq size opn A n cap ps h0 h1 h2 s j x w hm hn S hl G.hs hr h zs hz hj G.hx G.x0 G.x1 hf
theorem rpstep_pick (w : World) (hm : n ≤ 64) (hn : ps.length = n) (S : Some conv seq size) (R : Ri conv seq size ps h0 h1 h2) (hr : Rd w w.heap.size A (is ps)) (hs : s < 3) (hz : pick conv ps h0 h1 h2 n s = none) :
    Calls Try.prog 30 #[pgv conv soft seq size opn, ppv A n cap h0 h1 h2, .int .i64 s] w fun e w' => e = .returned (.tuple #[.agg #[.int .i64 0, .int .i64 0], ppv A n cap h0 h1 h2, .bool false]) ∧ Below w.heap.size w w' := by
  have hl := R.len
  rw [hn] at hl
  by_cases h : hd h0 h1 h2 s = 0
  · rw [pick_free h, List.head?_eq_none_iff] at hz
    exact rpstep_none conv soft seq size opn A n cap ps h0 h1 h2 s w hm hn S hl hs hr h hz
  · rw [pick_head h] at hz
    cases hz
end
theorem vars_laid {w5 u1 u2 u3 u4 : World} {z x : Int} {A : Option Addr} {n c : Nat} {k0 k1 k2 : Int} (ha : Below w5.heap.size w5 u1) (hs : u1.heap.size = w5.heap.size + 1) (hb : Below u1.heap.size u1 u2) (hc : u2.grownBy u3 (some w5.heap.size)) (hd : u3.grownBy u4 (some u1.heap.size))
    (xc : Box u3 w5.heap.size 48 (pacl z x)) (xd : Box u4 u1.heap.size 27 (plcs A n c k0 k1 k2)) : Below w5.heap.size w5 u4 ∧ Box u4 w5.heap.size 48 (pacl z x) ∧ Box u4 u1.heap.size 27 (plcs A n c k0 k1 k2) := by
  have h1 : Below w5.heap.size w5 u2 := ha.trans (hb.mono ha.size)
  have h2 : Below w5.heap.size w5 u3 := h1.grown hc h1.size (fun k hk => by injection hk with hk; omega)
  exact ⟨h2.grown hd h2.size (fun k hk => by injection hk with hk; omega), xc.grown hd (by omega), xd⟩
theorem pat_eql (w : World) (a b c d : Int) : (binOp .eql 48 (.agg #[.int .i64 a, .int .i64 b]) (.agg #[.int .i64 c, .int .i64 d])).run Try.prog w = .ok (.bool (a == c && b == d)) w := by
  rw [run_eql_struct, run_equalIn_agg _ _ _ _ _ (by kernel_rfl) (by kernel_rfl)]
  simp [go_sem, Try.underlying48, Try.underlying3]
  by_cases h1 : a = c <;> by_cases h2 : b = d <;> simp [h1, h2]
theorem pat_neq (w : World) (a b c d : Int) : (binOp .neq 48 (.agg #[.int .i64 a, .int .i64 b]) (.agg #[.int .i64 c, .int .i64 d])).run Try.prog w = .ok (.bool (!(a == c && b == d))) w := by
  rw [run_neq_struct, run_equalIn_agg _ _ _ _ _ (by kernel_rfl) (by kernel_rfl)]
  simp [go_sem, Try.underlying48, Try.underlying3]
  by_cases h1 : a = c <;> by_cases h2 : b = d <;> simp [h1, h2]
theorem pat_guard : Try.prog.eqGuardType Try.prog.depth 48 = false := by kernel_rfl
theorem awP : Ok 2 8 6 8 3 := by decide
theorem open_pool {H : Type} {enc : TypeId × Value → H} {w : World} {base b0 : Nat} {r : Reach} {sp : Nat → Bool} {held : Bool} {v : Value} {d : DataW H} {ps : List MemPlace}
    (hu : Value.okWide Try.prog w r b0 27 v) (h : DataW.Trod enc Try.prog w base sp held 27 v d ps) :
    ∃ (A : Option Addr) (n cap : Nat) (qs : List Int) (h0 h1 h2 : Int), v = ppv A n cap h0 h1 h2 ∧ n ≤ maxLen ∧ n ≤ cap ∧ cap ≤ maxLen ∧ qs.length = n ∧ Rd w w.heap.size A (is qs) ∧ h0 < 9223372036854775808 ∧ h1 < 9223372036854775808 ∧ h2 < 9223372036854775808 := by
  obtain ⟨cs, rfl, hs⟩ := has_agg (s := .pair 1 (.slice 1 (.int .i64)) (.pair 3 (.rep 3 1 (.int .i64)) .nil)) 3 (by kernel_rfl) h hu (.inl ⟨_, Try.underlying27⟩)
  obtain ⟨_, _, rfl, _, hsl, _, _, rfl, _, hd, rfl⟩ := hs
  obtain ⟨A, len, cap, zs, rfl, h1, h2, h3, h4, h5⟩ := has_slice_ints hsl
  obtain ⟨ws, h6, rfl, h7⟩ := has_ints hd
  rcases ws with _ | ⟨x, _ | ⟨y, _ | ⟨z, _ | ⟨t, rr⟩⟩⟩⟩
  · simp at h6
  · simp at h6
  · simp at h6
  · exact ⟨A, len, cap, zs, x, y, z, by simp, by omega, h1, h2, h3, h4, (wf_i64 (h7 x (by simp))).2, (wf_i64 (h7 y (by simp))).2, (wf_i64 (h7 z (by simp))).2⟩
  · simp at h6
theorem psame_refl (h0 h1 h2 : Int) (ps : List Int) : psame h0 h1 h2 ps h0 h1 h2 ps = true := by simp [psame]
theorem head_lt {conv seq size h0 h1 h2 : Int} {ps : List Int} (h : rightB conv seq size ps h0 h1 h2 = true) (S : Some conv seq size) : h0 < 9223372036854775808 ∧ h1 < 9223372036854775808 ∧ h2 < 9223372036854775808 := by
  have R := right_iff.1 h
  obtain ⟨q1, q2, q3, q4, q5⟩ := S
  have a := R.in0
  have b := R.in1
  have c := R.in2
  omega
section
variable (conv soft seq size opn : Int) (n : Nat) (ps : List Int) (h0 h1 h2 : Int) (s : Nat)
theorem both_step (hm : n ≤ 64) (hn : ps.length = n) (S : Some conv seq size) (R : Ri conv seq size ps h0 h1 h2) (hs : s < 3) :
    ∃ (z x : Int) (qs : List Int) (k0 k1 k2 : Int) (ok : Bool), qs.length = n ∧ Ri conv seq size qs k0 k1 k2 ∧
      (∀ (w : World) (A : Option Addr) (cap : Nat), Rd w w.heap.size A (is ps) → Calls Try.prog 29 #[pgv conv soft seq size opn, ppv A n cap h0 h1 h2, .int .i64 s] w fun e w' => ∃ g c, e = .returned (.tuple #[.agg #[.int .i64 z, .int .i64 x], ppv (some ⟨g, 0, none⟩) n c k0 k1 k2, .bool ok]) ∧ w'.ownsRow w.heap.size 3 1 (.slice (some ⟨g, 0, none⟩) n c) n (is qs) ∧ Below w.heap.size w w') ∧
      (∀ (w : World) (A : Option Addr) (cap : Nat), Rd w w.heap.size A (is ps) → Calls Try.prog 30 #[pgv conv soft seq size opn, ppv A n cap h0 h1 h2, .int .i64 s] w fun e w' => ∃ A' c, e = .returned (.tuple #[.agg #[.int .i64 z, .int .i64 x], ppv A' n c k0 k1 k2, .bool ok]) ∧ Rd w' w'.heap.size A' (is qs) ∧ Below w.heap.size w w') := by
  cases hp : pick conv ps h0 h1 h2 n s with
  | none =>
    refine ⟨0, 0, ps, h0, h1, h2, false, hn, R, fun w A cap hr => pstep_none conv soft seq size opn A n cap ps h0 h1 h2 s w hm hn S R hr hs hp, fun w A cap hr => ?_⟩
    exact (rpstep_pick conv soft seq size opn A n cap ps h0 h1 h2 s w hm hn S R hr hs hp).mono fun e w' h => ⟨A, cap, h.1, (hr.below h.2).more h.2.size, h.2⟩
  | some z =>
    rw [← hn] at hp
    obtain ⟨j, x, rfl, G⟩ := R.go (by have := S.2.2.2.1; omega) hs hp
    refine ⟨conv + j, x, _, _, _, _, true, by rw [List.length_set]; exact hn, G.ri R S, fun w A cap hr => pstep_go conv soft seq size opn A n cap ps h0 h1 h2 s j x w hm hn S R hr G, fun w A cap hr => ?_⟩
    exact (rpstep_go conv soft seq size opn A n cap ps h0 h1 h2 s j x w hm hn S R hr G).mono fun e w' ⟨A', c, h1', h2', h3'⟩ => ⟨A', c, h1', Rd.own h2', h3'⟩
theorem both_room (hm : n ≤ 64) (hn : ps.length = n) (S : Some conv seq size) (R : Ri conv seq size ps h0 h1 h2) (hs : s < 3) :
    ∃ r : Int, (r = if hd h0 h1 h2 s = 0 then 0 else size - ps.getD (hd h0 h1 h2 s - conv).toNat 0) ∧ 0 ≤ r ∧ r ≤ size ∧
      (∀ (w : World) (A : Option Addr) (cap : Nat), Rd w w.heap.size A (is ps) → Calls Try.prog 31 #[pgv conv soft seq size opn, ppv A n cap h0 h1 h2, .int .i64 s] w fun e w' => e = .returned (.int .i64 r) ∧ Below w.heap.size w w') ∧
      (∀ (w : World) (A : Option Addr) (cap : Nat), Rd w w.heap.size A (is ps) → Calls Try.prog 31 #[pgv conv soft seq size opn, ppv A n cap h0 h1 h2, .int .i64 s] w fun e w' => e = .returned (.int .i64 r) ∧ Below w.heap.size w w') := by
  have hl := R.len
  by_cases hh : hd h0 h1 h2 s = 0
  · exact ⟨0, by rw [if_pos hh], by omega, by have := S.2.2.2.1; omega, fun w A cap _ => proom_no conv soft seq size opn A n cap h0 h1 h2 s w hm S hs hh, fun w A cap _ => proom_no conv soft seq size opn A n cap h0 h1 h2 s w hm S hs hh⟩
  · rcases R.hd hs with h | ⟨h1', h2', h3'⟩
    · exact absurd h hh
    have hj : (hd h0 h1 h2 s - conv).toNat < n := by omega
    have hx := (R.pt (hd h0 h1 h2 s - conv).toNat (ps.getD (hd h0 h1 h2 s - conv).toNat 0) (by simp [hn, hj]))
    refine ⟨size - ps.getD (hd h0 h1 h2 s - conv).toNat 0, by rw [if_neg hh], by omega, by omega, fun w A cap hr => ?_, fun w A cap hr => ?_⟩
    · exact proom_head conv soft seq size opn A n cap ps h0 h1 h2 s _ w hm hn S hs hj (by omega) hx.1 hx.2.1 hr
    · exact proom_head conv soft seq size opn A n cap ps h0 h1 h2 s _ w hm hn S hs hj (by omega) hx.1 hx.2.1 hr
theorem both_rroom (hm : n ≤ 64) (hn : ps.length = n) (S : Some conv seq size) (R : Ri conv seq size ps h0 h1 h2) (hs : s < 3) :
    ∀ (w : World) (A : Option Addr) (cap : Nat), Rd w w.heap.size A (is ps) → Calls Try.prog 32 #[pgv conv soft seq size opn, ppv A n cap h0 h1 h2, .int .i64 s] w fun e w' => e = .returned (.int .i64 (if hd h0 h1 h2 s = 0 then 0 else size - ps.getD (hd h0 h1 h2 s - conv).toNat 0)) ∧ Below w.heap.size w w' := by
  have hl := R.len
  intro w A cap hr
  by_cases hh : hd h0 h1 h2 s = 0
  · rw [if_pos hh]
    exact rproom_no conv soft seq size opn A n cap h0 h1 h2 s w hs hh
  · rw [if_neg hh]
    rcases R.hd hs with h | ⟨h1', h2', h3'⟩
    · exact absurd h hh
    have hj : (hd h0 h1 h2 s - conv).toNat < n := by omega
    have hx := (R.pt (hd h0 h1 h2 s - conv).toNat (ps.getD (hd h0 h1 h2 s - conv).toNat 0) (by simp [hn, hj]))
    exact rproom_head conv soft seq size opn A n cap ps h0 h1 h2 s _ w hm hn S hs hj (by omega) hx.1 hx.2.1 hr
end
/-- of a right pool no head is used up -/
theorem full_eq {conv seq size : Int} {ps : List Int} {h0 h1 h2 : Int} (R : Ri conv seq size ps h0 h1 h2) (S : Some conv seq size) : zonF conv ps size h0 h1 h2 ps.length = zonesX conv ps size ps.length := by
  unfold zonF
  rw [List.filter_eq_self]
  intro z hz
  obtain ⟨j, hj, rfl, hx⟩ := zones_mem.1 hz
  cases hh : isH h0 h1 h2 (conv + j)
  · rfl
  · obtain ⟨t, ht, e⟩ := isH_hd.1 hh
    obtain ⟨q1, q2, q3, q4, q5⟩ := S
    rcases R.hd ht with h | ⟨_, _, h⟩
    · omega
    · rw [e, show (conv + (j : Int) - conv).toNat = j by omega] at h
      omega
end Go.Proofs.Ytbhcemipjfdemaa

/-
  The document's answer for layer 11: Reset, Step.
-/
import Derived.Test.YtnpnnejopibjcaaPoQ
namespace Go.Proofs.Ytnpnnejopibjcaa
open Go.RowKit Geom Leaf Pol
set_option linter.unusedVariables false

section
variable (conv soft seq size opn : Int) (A : Option Addr) (n cap : Nat) (ps : List Int) (h0 h1 h2 : Int)
set_option maxRecDepth 100000 in
set_option maxHeartbeats 4000000 in
theorem rpreset_low (z : Int) (hz : z < conv) (w : World) (hm : n ≤ 64) (hn : ps.length = n) (S : Some conv seq size) (hns : (n : Int) = seq) (hr : Rd w w.heap.size A (is ps)) :
    Calls Try.prog 19 #[pgv conv soft seq size opn, ppv A n cap h0 h1 h2, .int .i64 z] w fun e w' => e = .returned (.tuple #[ppv A n cap h0 h1 h2, .bool false]) ∧ Below w.heap.size w w' := by
  obtain ⟨q1, q2, q3, q4, q5⟩ := S
  have H0 := Lib.hid (GP.res w conv soft seq size opn A n cap h0 h1 h2)
  have hw0 := IntWalk.i64_in (conv + seq) (by omega)
  have hd0 : decide (z < conv) = true := decide_eq_true hz
  obtain ⟨c0, c1, c2, c3, c4, cl⟩ := id H0.out.1.1
  obtain ⟨a0, a1, a2, a3, al⟩ := id H0.out.1.2.1
  go_enter Try.func19, Try.ntmps19
  go_wp2_with fail
  generalize World.alloc _ _ = w1 at H0 c0 c1 c2 c3 c4 cl a0 a1 a2 a3 al ⊢
  go_quiet (fail)
  have H1 := Lib.hid (And.intro (H0.out.1.drewN nq) (H0.out.2.draws nq))
  clear c0 c1 c2 c3 c4 cl a0 a1 a2 a3 al H0
  generalize w1.drewN nq = w2 at H1 ⊢
  obtain ⟨a0, a1, a2, a3, al⟩ := id H1.out.1.2.1
  go_wp2_with ((with_reducible refine wpList_pool_store (o := ⟨none, .store _ _ _, _, _, _, _⟩) rfl _ _ rfl _ A none n 0 cap 0 h0 h1 h2 0 0 0 rfl rfl H1.out.2 ?_); intro w9 x9 hg9; have HF := Lib.hid (H1.out.1.2.2.grown hg9 H1.out.1.2.2.size (fun k hk => by injection hk with hk; omega)); obtain ⟨r0, r1, r2, r3, rl⟩ := Box.pool x9; clear hg9 x9)
  exact bodyPost_ret (v := .tuple #[ppv A n cap h0 h1 h2, .bool false]) (by simp [results, Try.results19, go_sem, r0, r1, r2, r3]) rfl ⟨rfl, HF.out⟩
set_option maxRecDepth 100000 in
set_option maxHeartbeats 4000000 in
theorem rpreset_high (z : Int) (hz : conv + seq ≤ z) (w : World) (hm : n ≤ 64) (hn : ps.length = n) (S : Some conv seq size) (hns : (n : Int) = seq) (hr : Rd w w.heap.size A (is ps)) :
    Calls Try.prog 19 #[pgv conv soft seq size opn, ppv A n cap h0 h1 h2, .int .i64 z] w fun e w' => e = .returned (.tuple #[ppv A n cap h0 h1 h2, .bool false]) ∧ Below w.heap.size w w' := by
  obtain ⟨q1, q2, q3, q4, q5⟩ := S
  have H0 := Lib.hid (GP.res w conv soft seq size opn A n cap h0 h1 h2)
  have hw0 := IntWalk.i64_in (conv + seq) (by omega)
  have hd0 : decide (z < conv) = false := decide_eq_false (by omega)
  have hd1 : decide (conv + seq ≤ z) = true := decide_eq_true hz
  obtain ⟨c0, c1, c2, c3, c4, cl⟩ := id H0.out.1.1
  obtain ⟨a0, a1, a2, a3, al⟩ := id H0.out.1.2.1
  go_enter Try.func19, Try.ntmps19
  go_wp2_with fail
  generalize World.alloc _ _ = w1 at H0 c0 c1 c2 c3 c4 cl a0 a1 a2 a3 al ⊢
  go_quiet (fail)
  have H1 := Lib.hid (And.intro (H0.out.1.drewN nq) (H0.out.2.draws nq))
  clear c0 c1 c2 c3 c4 cl a0 a1 a2 a3 al H0
  generalize w1.drewN nq = w2 at H1 ⊢
  obtain ⟨a0, a1, a2, a3, al⟩ := id H1.out.1.2.1
  go_wp2_with ((with_reducible refine wpList_pool_store (o := ⟨none, .store _ _ _, _, _, _, _⟩) rfl _ _ rfl _ A none n 0 cap 0 h0 h1 h2 0 0 0 rfl rfl H1.out.2 ?_); intro w9 x9 hg9; have HF := Lib.hid (H1.out.1.2.2.grown hg9 H1.out.1.2.2.size (fun k hk => by injection hk with hk; omega)); obtain ⟨r0, r1, r2, r3, rl⟩ := Box.pool x9; clear hg9 x9)
  exact bodyPost_ret (v := .tuple #[ppv A n cap h0 h1 h2, .bool false]) (by simp [results, Try.results19, go_sem, r0, r1, r2, r3]) rfl ⟨rfl, HF.out⟩
set_option maxRecDepth 100000 in
set_option maxHeartbeats 4000000 in
theorem rpreset_no (j : Nat) (hj : j < n) (hx : ps.getD j 0 ≠ size) (w : World) (hm : n ≤ 64) (hn : ps.length = n) (S : Some conv seq size) (hns : (n : Int) = seq) (hr : Rd w w.heap.size A (is ps)) :
    Calls Try.prog 19 #[pgv conv soft seq size opn, ppv A n cap h0 h1 h2, .int .i64 (conv + j)] w fun e w' => e = .returned (.tuple #[ppv A n cap h0 h1 h2, .bool false]) ∧ Below w.heap.size w w' := by
  obtain ⟨q1, q2, q3, q4, q5⟩ := S
  have H0 := Lib.hid (GP.res w conv soft seq size opn A n cap h0 h1 h2)
  have hw0 := IntWalk.i64_in (conv + seq) (by omega)
  have hd0 : decide (conv + (j : Int) < conv) = false := decide_eq_false (by omega)
  have hd1 : decide (conv + seq ≤ conv + (j : Int)) = false := decide_eq_false (by omega)
  have hw2 : IntKind.i64.wrap (conv + (j : Int) - conv) = (j : Int) := by rw [show conv + (j : Int) - conv = j by omega]; exact IntWalk.i64_in _ (by omega)
  have hjI : (j : Int) < (n : Int) := by omega
  have hjs : (j : Int) < seq := by omega
  obtain ⟨c0, c1, c2, c3, c4, cl⟩ := id H0.out.1.1
  obtain ⟨a0, a1, a2, a3, al⟩ := id H0.out.1.2.1
  obtain ⟨ad, hA, _, pc⟩ := (Rd.gp hr H0.out.1).point (k := j) (by omega)
  subst hA
  have hq : (ps.getD j 0 != size) = true := by simpa using hx
  clear hx hn hr
  generalize ps.getD j 0 = x at pc hq
  go_enter Try.func19, Try.ntmps19
  go_wp2_with fail
  generalize World.alloc _ _ = w1 at H0 c0 c1 c2 c3 c4 cl a0 a1 a2 a3 al pc ⊢
  go_quiet (fail)
  have H1 := Lib.hid (And.intro (H0.out.1.drewN nq) (H0.out.2.draws nq))
  clear c0 c1 c2 c3 c4 cl a0 a1 a2 a3 al pc H0
  generalize w1.drewN nq = w2 at H1 ⊢
  obtain ⟨a0, a1, a2, a3, al⟩ := id H1.out.1.2.1
  go_wp2_with ((with_reducible refine wpList_pool_store (o := ⟨none, .store _ _ _, _, _, _, _⟩) rfl _ _ rfl _ (some ad) none n 0 cap 0 h0 h1 h2 0 0 0 rfl rfl H1.out.2 ?_); intro w9 x9 hg9; have HF := Lib.hid (H1.out.1.2.2.grown hg9 H1.out.1.2.2.size (fun k hk => by injection hk with hk; omega)); obtain ⟨r0, r1, r2, r3, rl⟩ := Box.pool x9; clear hg9 x9)
  exact bodyPost_ret (v := .tuple #[ppv (some ad) n cap h0 h1 h2, .bool false]) (by simp [results, Try.results19, go_sem, r0, r1, r2, r3]) rfl ⟨rfl, HF.out⟩
set_option maxRecDepth 100000 in
set_option maxHeartbeats 4000000 in
theorem rpreset_yes (j : Nat) (hj : j < n) (hx : ps.getD j 0 = size) (w : World) (hm : n ≤ 64) (hn : ps.length = n) (S : Some conv seq size) (hns : (n : Int) = seq) (hr : Rd w w.heap.size A (is ps)) :
    Calls Try.prog 19 #[pgv conv soft seq size opn, ppv A n cap h0 h1 h2, .int .i64 (conv + j)] w fun e w' => ∃ A' c', e = .returned (.tuple #[ppv A' n c' h0 h1 h2, .bool true]) ∧ w'.ownsRow w.heap.size 3 1 (.slice A' n c') n (is (ps.set j 0)) ∧ Below w.heap.size w w' := by
  have HW := Lib.hid fun w' (h : GP w w' conv soft seq size opn A n cap h0 h1 h2) => rpwith_any conv soft seq size opn A n cap ps h0 h1 h2 j 0 w' hm (by omega) hn S (by omega) (hr.gp h)
  obtain ⟨q1, q2, q3, q4, q5⟩ := S
  have H0 := Lib.hid (GP.res w conv soft seq size opn A n cap h0 h1 h2)
  have hw0 := IntWalk.i64_in (conv + seq) (by omega)
  have HP := Lib.hid (show 0 < n by omega)
  have hd0 : decide (conv + (j : Int) < conv) = false := decide_eq_false (by omega)
  have hd1 : decide (conv + seq ≤ conv + (j : Int)) = false := decide_eq_false (by omega)
  have hw2 : IntKind.i64.wrap (conv + (j : Int) - conv) = (j : Int) := by rw [show conv + (j : Int) - conv = j by omega]; exact IntWalk.i64_in _ (by omega)
  have hjI : (j : Int) < (n : Int) := by omega
  have hjs : (j : Int) < seq := by omega
  obtain ⟨c0, c1, c2, c3, c4, cl⟩ := id H0.out.1.1
  obtain ⟨a0, a1, a2, a3, al⟩ := id H0.out.1.2.1
  obtain ⟨ad, hA, _, pc⟩ := (Rd.gp hr H0.out.1).point (k := j) (by omega)
  subst hA
  have hq : (ps.getD j 0 != size) = false := by simpa using hx
  clear hx hn hr
  generalize ps.getD j 0 = x at pc hq
  go_enter Try.func19, Try.ntmps19
  go_wp2_with fail
  generalize World.alloc _ _ = w1 at H0 c0 c1 c2 c3 c4 cl a0 a1 a2 a3 al pc ⊢
  go_quiet (fail)
  have H1 := Lib.hid (And.intro (H0.out.1.drewN nq) (H0.out.2.draws nq))
  clear c0 c1 c2 c3 c4 cl a0 a1 a2 a3 al pc H0
  generalize w1.drewN nq = w2 at H1 ⊢
  obtain ⟨c0, c1, c2, c3, c4, cl⟩ := id H1.out.1.1
  obtain ⟨a0, a1, a2, a3, al⟩ := id H1.out.1.2.1
  go_wp2_with fail
  refine (HW.out _ H1.out.1).mono ?_
  rintro e w3 ⟨A3, cp3, rfl, hown, hb⟩
  obtain ⟨g3, rfl, hg3, hg3'⟩ := own_at hown HP.out
  have H3 := Lib.hid (And.intro (H1.out.1.below hb) (H1.out.2.on hb))
  have HO3 := Lib.hid hown
  have HG := Lib.hid (show w.heap.size + 1 + 1 < g3 by have := H1.out.2.lt; omega)
  have HBs := Lib.hid H1.out.1.2.2.size
  clear c0 c1 c2 c3 c4 cl a0 a1 a2 a3 al hown hb hg3 hg3' HW H1
  go_wp2_with ((with_reducible refine wpList_pool_store (o := ⟨none, .store _ _ _, _, _, _, _⟩) rfl _ _ rfl _ (some ⟨g3, 0, none⟩) none n 0 cp3 0 h0 h1 h2 0 0 0 rfl rfl H3.out.2 ?_); intro w9 x9 hg9; have HF := Lib.hid (H3.out.1.2.2.grown hg9 H3.out.1.2.2.size (fun k hk => by injection hk with hk; omega)); have HO9 := Lib.hid (own_base0 (own_grown HO3.out hg9 (by have := HG.out; omega)) HBs.out); obtain ⟨r0, r1, r2, r3, rl⟩ := Box.pool x9; clear hg9 x9)
  exact bodyPost_ret (v := .tuple #[ppv (some ⟨g3, 0, none⟩) n cp3 h0 h1 h2, .bool true]) (by simp [results, Try.results19, go_sem, r0, r1, r2, r3]) rfl ⟨_, cp3, rfl, HO9.out, HF.out⟩
end
end Go.Proofs.Ytnpnnejopibjcaa

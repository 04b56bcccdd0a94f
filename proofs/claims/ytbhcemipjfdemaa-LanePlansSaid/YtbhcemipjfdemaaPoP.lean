/-
  The document's answer for layer 11: Room, Same; windrowref09's Same.
-/
import Derived.Test.YtbhcemipjfdemaaPoO
namespace Go.Proofs.Ytbhcemipjfdemaa
open Go.RowKit Geom Leaf Pol
set_option linter.unusedVariables false

section
variable (conv soft seq size opn : Int) (A : Option Addr) (n cap : Nat) (ps : List Int) (h0 h1 h2 : Int) (s : Nat)
set_option maxRecDepth 100000 in
theorem rproom_no (w : World) (hs : s < 3) (hh : hd h0 h1 h2 s = 0) :
    Calls Try.prog 32 #[pgv conv soft seq size opn, ppv A n cap h0 h1 h2, .int .i64 s] w fun e w' => e = .returned (.int .i64 0) ∧ Below w.heap.size w w' := by
  have H0 := Lib.hid (GP.new w conv soft seq size opn A n cap h0 h1 h2 23 27)
  have hsI : (s : Int) < 3 := by omega
  have ah := (H0.out.2.1.head hs).trans (by rw [hh])
  go_enter Try.func32, Try.ntmps32
  go_wp2
  go_ret
  exact ⟨rfl, H0.out.2.2⟩
set_option maxRecDepth 100000 in
theorem rproom_head (j : Nat) (w : World) (hm : n ≤ 64) (hn : ps.length = n) (S : Some conv seq size) (hs : s < 3) (hj : j < n) (hh : hd h0 h1 h2 s = conv + j) (hx0 : 0 ≤ ps.getD j 0) (hx1 : ps.getD j 0 ≤ size) (hr : Rd w w.heap.size A (is ps)) :
    Calls Try.prog 32 #[pgv conv soft seq size opn, ppv A n cap h0 h1 h2, .int .i64 s] w fun e w' => e = .returned (.int .i64 (size - ps.getD j 0)) ∧ Below w.heap.size w w' := by
  obtain ⟨q1, q2, q3, q4, q5⟩ := S
  have H0 := Lib.hid (GP.new w conv soft seq size opn A n cap h0 h1 h2 23 27)
  have hsI : (s : Int) < 3 := by omega
  have hjI : (j : Int) < (n : Int) := by omega
  have hw := IntWalk.i64_in (size - ps.getD j 0) (by omega)
  have hw2 : IntKind.i64.wrap (conv + (j : Int) - conv) = (j : Int) := by rw [show conv + (j : Int) - conv = j by omega]; exact IntWalk.i64_in _ (by omega)
  have hq : (conv + (j : Int) == 0) = false := by rw [beq_eq_false_iff_ne]; omega
  have ah := (H0.out.2.1.head hs).trans (by rw [hh])
  obtain ⟨c0, c1, c2, c3, c4, cl⟩ := id H0.out.1
  obtain ⟨a0, a1, a2, a3, al⟩ := id H0.out.2.1
  obtain ⟨ad, rfl, _, pc⟩ := (Rd.gp hr H0.out).point (k := j) (by omega)
  generalize hy : ps.getD j 0 = y at *
  have HY := Lib.hid hy
  clear hy hr hn hs hh hj
  go_enter Try.func32, Try.ntmps32
  go_wp2_with fail
  generalize World.alloc _ _ = w1 at H0 c0 c1 c2 c3 c4 cl a0 a1 a2 a3 al pc ah ⊢
  go_quiet (fail)
  have hb4 := below_draws H0.out.2.2 nq
  generalize w1.drewN nq = w4 at hb4 ⊢
  go_wp2
  go_ret
  exact ⟨rfl, hb4⟩
end
def psame (h0 h1 h2 : Int) (ps : List Int) (k0 k1 k2 : Int) (qs : List Int) : Bool := [h0, h1, h2] == [k0, k1, k2] && ps == qs
theorem heads_neq (w : World) (h0 h1 h2 k0 k1 k2 : Int) : (binOp .neq 25 (.agg #[.int .i64 h0, .int .i64 h1, .int .i64 h2]) (.agg #[.int .i64 k0, .int .i64 k1, .int .i64 k2])).run Try.prog w = .ok (.bool (!([h0, h1, h2] == [k0, k1, k2]))) w :=
  big_neq w 25 3 3 .i64 Try.underlying25 Try.underlying3 size_int [h0, h1, h2] [k0, k1, k2] rfl rfl
set_option maxRecDepth 100000 in
set_option maxHeartbeats 4000000 in
theorem rpsame_any (A A' : Option Addr) (n cap n' cap' : Nat) (h0 h1 h2 k0 k1 k2 : Int) (ps qs : List Int) (w : World) (hm : n ≤ maxLen) (hm' : n' ≤ maxLen) (hn : ps.length = n) (hn' : qs.length = n') (hr : Rd w w.heap.size A (is ps)) (hr' : Rd w w.heap.size A' (is qs)) :
    Calls Try.prog 16 #[ppv A n cap h0 h1 h2, ppv A' n' cap' k0 k1 k2] w fun e w' => e = .returned (.bool (psame h0 h1 h2 ps k0 k1 k2 qs)) ∧ Below w.heap.size w w' := by
  unfold maxLen at hm hm'
  have hq1 := heads_neq
  have hL1 := LiesP.new w A n cap h0 h1 h2 27 (0, 0)
  have hL2 := LiesP.new (w.alloc (.cells #[.slice A n cap, .int .i64 h0, .int .i64 h1, .int .i64 h2] 27)) A' n' cap' k0 k1 k2 27 (0, 0)
  rw [show (w.alloc (.cells #[.slice A n cap, .int .i64 h0, .int .i64 h1, .int .i64 h2] 27)).heap.size = w.heap.size + 1 by simp] at hL2
  have H0 := Lib.hid (And.intro (hL1.below ((Below.refl _ _).alloc (Nat.le_refl _) (.cells #[.slice A' n' cap', .int .i64 k0, .int .i64 k1, .int .i64 k2] 27))) (And.intro hL2 (((Below.refl w.heap.size w).alloc (Nat.le_refl _) (.cells #[.slice A n cap, .int .i64 h0, .int .i64 h1, .int .i64 h2] 27)).alloc (by simp) (.cells #[.slice A' n' cap', .int .i64 k0, .int .i64 k1, .int .i64 k2] 27))))
  have HR := Lib.hid hr
  have HR' := Lib.hid hr'
  have HN := Lib.hid hn
  have HN' := Lib.hid hn'
  generalize hres : psame h0 h1 h2 ps k0 k1 k2 qs = res
  have HRes := Lib.hid hres
  clear hr hr' hn hn' hL1 hL2 hres
  cases hh : [h0, h1, h2] == [k0, k1, k2]
  · have HV := Lib.hid (HRes.out.symm.trans (show psame h0 h1 h2 ps k0 k1 k2 qs = false by simp only [psame, hh, Bool.false_and]))
    have hqq : ∀ w : World, (binOp .neq 25 (.agg #[.int .i64 h0, .int .i64 h1, .int .i64 h2]) (.agg #[.int .i64 k0, .int .i64 k1, .int .i64 k2])).run Try.prog w = .ok (.bool true) w := fun w => by rw [hq1, hh]; rfl
    clear hq1 hh
    go_enter Try.func16, Try.ntmps16
    go_wp2
    go_ret
    exact ⟨ret_bool HV.out, H0.out.2.2⟩
  have hqq : ∀ w : World, (binOp .neq 25 (.agg #[.int .i64 h0, .int .i64 h1, .int .i64 h2]) (.agg #[.int .i64 k0, .int .i64 k1, .int .i64 k2])).run Try.prog w = .ok (.bool false) w := fun w => by rw [hq1, hh]; rfl
  have HV := Lib.hid (HRes.out.symm.trans (show psame h0 h1 h2 ps k0 k1 k2 qs = (ps == qs) by simp only [psame, hh, Bool.true_and]))
  clear hq1 hh HRes
  by_cases hne : n = n'
  rotate_left
  · have HXY := Lib.hid (HV.out.trans (show (ps == qs) = false by
      rw [beq_eq_false_iff_ne]
      rintro rfl
      have h1 := HN.out
      have h2 := HN'.out
      omega))
    have hq : ((n : Int) != (n' : Int)) = true := by rw [bne_iff_ne]; omega
    go_enter Try.func16, Try.ntmps16
    go_wp2
    go_ret
    exact ⟨ret_bool HXY.out, H0.out.2.2⟩
  subst hne
  go_enter Try.func16, Try.ntmps16
  go_wp2_with fail
  generalize World.alloc _ _ = w0 at H0 ⊢
  go_loopw [5] (fun i wr => ∃ k : Nat, k ≤ n ∧ i = .int .i64 k ∧ ps.take k = qs.take k ∧ LiesP wr w.heap.size A n cap h0 h1 h2 ∧ LiesP wr (w.heap.size + 1) A' n cap' k0 k1 k2 ∧ Below w.heap.size w wr) (fun i _ => n - (intOf i).toNat)
  case atStart => exact ⟨0, by omega, rfl, rfl, H0.out⟩
  case round =>
    obtain ⟨k, hk, rfl, HT, hL1, hL2, hbl⟩ := hrel
    have HT := Lib.hid HT
    have H1 := Lib.hid (And.intro hL1 (And.intro hL2 hbl))
    obtain ⟨a0, a1, a2, a3, al⟩ := id hL1
    obtain ⟨d0, d1, d2, d3, dl⟩ := id hL2
    clear hL1 hL2 hbl H0
    by_cases hlt : k < n
    rotate_left
    · obtain rfl : n = k := by omega
      have HXY := Lib.hid (HV.out.trans (show (ps == qs) = true by
        have h := HT.out
        rw [List.take_of_length_le (by rw [HN.out]; omega), List.take_of_length_le (by rw [HN'.out]; omega)] at h
        rw [h, beq_self_eq_true]))
      go_wp2
      go_ret
      exact ⟨ret_bool HXY.out, H1.out.2.2⟩
    obtain ⟨ad, rfl, _, hc⟩ := (HR.out.below H1.out.2.2).point (k := k) (by rw [HN.out]; exact hlt)
    obtain ⟨ad', rfl, _, hc'⟩ := (HR'.out.below H1.out.2.2).point (k := k) (by rw [HN'.out]; exact hlt)
    have e : ps.take (k + 1) = ps.take k ++ [ps.getD k 0] := by rw [List.take_succ_eq_append_getElem (by rw [HN.out]; omega)]; simp [HN.out, hlt]
    have e' : qs.take (k + 1) = qs.take k ++ [qs.getD k 0] := by rw [List.take_succ_eq_append_getElem (by rw [HN'.out]; omega)]; simp [HN'.out, hlt]
    have hkI : (k : Int) < (n : Int) := by omega
    generalize ps.getD k 0 = c at hc e
    generalize qs.getD k 0 = c' at hc' e'
    have HE := Lib.hid e
    have HE' := Lib.hid e'
    clear e e'
    by_cases hcc : c = c'
    · subst hcc
      have hq : (c != c) = false := by simp
      go_wp2
      go_quiet (fail)
      have H2 := Lib.hid (And.intro (H1.out.1.drewN nq) (And.intro (H1.out.2.1.drewN nq) (below_draws H1.out.2.2 nq)))
      generalize wr.drewN nq = w2 at H2 ⊢
      go_wp2
      go_roundw
      case rel => exact ⟨k + 1, by omega, by go_num, by rw [HE.out, HE'.out, HT.out], H2.out⟩
      case measure => simp [intOf]; omega
    · have hq : (c != c') = true := by simp [hcc]
      have hxy : (ps == qs) = false := by
        rw [beq_eq_false_iff_ne]
        rintro rfl
        have h := HE.out.symm.trans HE'.out
        simp at h
        exact hcc h
      have HXY := Lib.hid (HV.out.trans hxy)
      clear hxy hcc
      go_wp2
      go_quiet (fail)
      have hb4 := below_draws H1.out.2.2 nq
      generalize wr.drewN nq = w4 at hb4 ⊢
      go_wp2
      go_ret
      exact ⟨ret_bool HXY.out, hb4⟩
end Go.Proofs.Ytbhcemipjfdemaa

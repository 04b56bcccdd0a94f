/-
  slices.Grow and slices.Concat over writes.
-/
import Derived.Test.YtiljjgohmjimdaaTrC
import Derived.Lib.AppendZeros
namespace Go.Proofs.Ytiljjgohmjimdaa
open Go.RowKit Word Tran
set_option linter.unusedVariables false

theorem run_append_zeros {P : Program} (w : World) {t tn e : TypeId} {z : Value} {size bytes : Nat} (he : Elem P t e z size bytes) (htn : P.underlying tn = some (.int .i64)) (n : Nat) (h0 : 0 < n) (h63 : n ≤ maxLen) (h48 : n * bytes ≤ 140737488355328) :
    ∃ c w', (∀ ty, (Builtin.append_ #[t, tn] ty #[.slice none 0 0, .int .i64 n]).run P w = .ok (.slice (some ⟨w.heap.size, 0, none⟩) n c) w') ∧ n ≤ c ∧ w'.ownsRow w.heap.size e size (.slice (some ⟨w.heap.size, 0, none⟩) 0 c) 0 [] ∧ Below w.heap.size w w' := by
  obtain ⟨ht, i, hi, hz1, hsize, hby, hzs, hsz⟩ := he
  refine ⟨_, _, fun ty => Lib.run_append_nil_zeros w t tn ty e i z .i64 .i64 ht htn hi hz1 n h0 (by omega) (by unfold maxLen at h63; omega) (by rw [hby]; omega), grownCap_ge _ _ _ _, ?_, ?_⟩
  · have hge := grownCap_ge w n 0 e
    have hcm : grownCap w n 0 e ≤ maxLen := grownCap_le_maxLen w n 0 e h63
    refine ⟨by simp, .inr ⟨w.heap.size, _, _, rfl, Nat.le_refl _, heap_alloc_new w.drew _, by omega, hcm, ?_, by simp⟩⟩
    simp [Builtin.zeroCells, hzs]
    rw [← Nat.add_mul]
    congr 1
    omega
  · exact (Below.refl _ _).drew.alloc (Nat.le_refl _) _
set_option maxRecDepth 100000 in
set_option maxHeartbeats 4000000 in
theorem wgrow_any (n : Nat) (w : World) (h0 : 0 < n) (hm : n ≤ 100000) : Calls Try.prog 35 #[.slice none 0 0, .int .i64 n] w fun e w' =>
    ∃ c, e = .returned (.slice (some ⟨w.heap.size, 0, none⟩) 0 c) ∧ w'.ownsRow w.heap.size 49 34 (.slice (some ⟨w.heap.size, 0, none⟩) 0 c) 0 [] ∧ Below w.heap.size w w' := by
  obtain ⟨c, w1, hrun, hnc, hown, hb⟩ := run_append_zeros w elemW Try.underlying3 n h0 (by simp only [maxLen]; omega) (by omega)
  have HR := Lib.hid hrun
  have H1 := Lib.hid (And.intro hown hb)
  clear hrun hown hb
  go_enter Try.func35, Try.ntmps35
  go_wp2_with (first
    | (at_builtin; refine Lib.wpList_append_run _ rfl _ _ _ _ rfl _ _ rfl rfl _ _ (HR.out _) ?_)
    | fail)
  go_ret
  exact ⟨c, rfl, H1.out.1, H1.out.2⟩
set_option maxRecDepth 100000 in
set_option maxHeartbeats 4000000 in
theorem wconcat_any (g : Nat) (A1 A2 A3 : Option Addr) (n1 c1 c2 n3 c3 : Nat) (l1 l3 : List Wt) (x : Wt) (w : World) (h1 : l1.length = n1) (h3 : l3.length = n3) (hm1 : n1 ≤ 10000) (hm3 : n3 ≤ 10000) (hin : ∀ o ∈ l1 ++ [x] ++ l3, WIn o)
    (hr : Rd w w.heap.size (some ⟨g, 0, none⟩) [.slice A1 n1 c1, .slice A2 1 c2, .slice A3 n3 c3]) (hr1 : Rd w w.heap.size A1 (tws l1)) (hr2 : Rd w w.heap.size A2 (twc x)) (hr3 : Rd w w.heap.size A3 (tws l3)) :
    Calls Try.prog 28 #[.slice (some ⟨g, 0, none⟩) 3 3] w fun e w' =>
      ∃ V, e = .returned V ∧ w'.ownsRow w.heap.size 49 34 V (l1 ++ [x] ++ l3).length (tws (l1 ++ [x] ++ l3)) ∧ Below w.heap.size w w' := by
  have HL1 := Lib.hid (show (tws l1).length = n1 * 34 by rw [tws_length fun o ho => hin o (by simp [ho]), h1])
  have HL2 := Lib.hid (show (twc x).length = 1 * 34 from twc_len (hin x (by simp)))
  have HL3 := Lib.hid (show (tws l3).length = n3 * 34 by rw [tws_length fun o ho => hin o (by simp [ho]), h3])
  have HE := Lib.hid (show (l1 ++ [x] ++ l3).length = 0 + n1 + 1 + n3 by simp [h1, h3]; omega)
  have HT := Lib.hid (show tws (l1 ++ [x] ++ l3) = [] ++ tws l1 ++ twc x ++ tws l3 by rw [tws_append, tws_append, tws_single]; rfl)
  have HR := Lib.hid hr
  have HR1 := Lib.hid hr1
  have HR2 := Lib.hid hr2
  have HR3 := Lib.hid hr3
  have e0 := fun w' (h : Below w.heap.size w w') => (hr.below h).cell0 (k := 0) (u := .slice A1 n1 c1) rfl
  have e1 := fun w' (h : Below w.heap.size w w') => (hr.below h).cell0 (k := 1) (u := .slice A2 1 c2) rfl
  have e2 := fun w' (h : Below w.heap.size w w') => (hr.below h).cell0 (k := 2) (u := .slice A3 n3 c3) rfl
  have E := Lib.hid (And.intro e0 (And.intro e1 e2))
  have a0 := e0 w (Below.refl _ _)
  have a1 := e1 w (Below.refl _ _)
  have a2 := e2 w (Below.refl _ _)
  clear e0 e1 e2 hr hr1 hr2 hr3 h1 h3 hin
  go_enter Try.func28, Try.ntmps28
  go_wp2
  refine wp_loop_rounds 4 ?_
  rw [rounds_succ]
  go_wp2
  rw [rounds_succ]
  go_wp2
  rw [rounds_succ]
  go_wp2
  rw [rounds_succ]
  go_wp2_with fail
  rw [show ((n1 : Int) + 1 + (n3 : Int)) = ((n1 + 1 + n3 : Nat) : Int) by omega]
  refine (wgrow_any (n1 + 1 + n3) w (by omega) (by omega)).mono ?_
  rintro e w1 ⟨c, rfl, hown, hb⟩
  have H1 := Lib.hid (And.intro hown hb)
  clear hown hb a0 a1 a2
  have a0 := E.out.1 w1 H1.out.2
  have a1 := E.out.2.1 w1 H1.out.2
  have a2 := E.out.2.2 w1 H1.out.2
  go_wp2_with fail
  refine wp_loop_rounds 4 ?_
  rw [rounds_succ]
  go_wp2_with (first
    | (at_builtin; refine wpList_append_rd _ rfl _ _ _ rfl w.heap.size 49 _ 34 48 elemW (.slice (some ⟨w.heap.size, 0, none⟩) 0 c) 0 [] rfl H1.out.1 w.heap.size A1 n1 c1 (tws l1) rfl HL1.out (HR1.out.below H1.out.2) (tws_one l1) (by simp only [maxLen]; omega) (by omega) H1.out.2.size ?_; intro v2 w2 hown2 hg2 _; have H2 := Lib.hid (And.intro hown2 (H1.out.2.grown hg2 H1.out.2.size fun k hk => (H1.out.1.lt k hk).1)); clear hown2 hg2 H1 a0 a1 a2)
    | fail)
  obtain ⟨A5, c5, rfl⟩ := own_slice H2.out.1
  have a0 := E.out.1 w2 H2.out.2
  have a1 := E.out.2.1 w2 H2.out.2
  have a2 := E.out.2.2 w2 H2.out.2
  rw [rounds_succ]
  go_wp2_with (first
    | (at_builtin; refine wpList_append_rd _ rfl _ _ _ rfl w.heap.size 49 _ 34 48 elemW (.slice A5 (0 + n1) c5) (0 + n1) _ rfl H2.out.1 w.heap.size A2 1 c2 (twc x) rfl HL2.out (HR2.out.below H2.out.2) (twc_one x) (by simp only [maxLen]; omega) (by omega) H2.out.2.size ?_; intro v3 w3 hown3 hg3 _; have H3 := Lib.hid (And.intro hown3 (H2.out.2.grown hg3 H2.out.2.size fun k hk => (H2.out.1.lt k hk).1)); clear hown3 hg3 H2 a0 a1 a2)
    | fail)
  obtain ⟨A6, c6, rfl⟩ := own_slice H3.out.1
  have a0 := E.out.1 w3 H3.out.2
  have a1 := E.out.2.1 w3 H3.out.2
  have a2 := E.out.2.2 w3 H3.out.2
  rw [rounds_succ]
  go_wp2_with (first
    | (at_builtin; refine wpList_append_rd _ rfl _ _ _ rfl w.heap.size 49 _ 34 48 elemW (.slice A6 (0 + n1 + 1) c6) (0 + n1 + 1) _ rfl H3.out.1 w.heap.size A3 n3 c3 (tws l3) rfl HL3.out (HR3.out.below H3.out.2) (tws_one l3) (by simp only [maxLen]; omega) (by omega) H3.out.2.size ?_; intro v4 w4 hown4 hg4 _; have H4 := Lib.hid (And.intro hown4 (H3.out.2.grown hg4 H3.out.2.size fun k hk => (H3.out.1.lt k hk).1)); clear hown4 hg4 H3 a0 a1 a2)
    | fail)
  rw [rounds_succ]
  go_wp2
  go_ret
  exact ⟨_, rfl, by rw [HE.out, HT.out]; exact H4.out.1, H4.out.2⟩
end Go.Proofs.Ytiljjgohmjimdaa

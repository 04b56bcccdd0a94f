/-
  Are zones right? By the document.
-/
import Derived.Test.YtnpnnejopibjcaaZoneI
namespace Go.Proofs.Ytnpnnejopibjcaa
open Go.RowKit Geom Zone
set_option linter.unusedVariables false

set_option maxRecDepth 100000 in
set_option maxHeartbeats 4000000 in
theorem rzright_any (conv soft seq size opn : Int) (A : Option Addr) (n cap : Nat) (L : List Z) (w : World) (hm : n ≤ maxLen) (hn : L.length = n) (H : Some conv seq size) (hr : Rd w w.heap.size A (zc L)) :
    Calls Try.prog 10 #[.agg #[.int .i64 conv, .int .i64 soft, .int .i64 seq, .int .i64 size, .int .i64 opn], .slice A n cap] w fun e w' => e = .returned (.bool (fitB conv seq size opn L)) ∧ Below w.heap.size w w' := by
  have H0 := Lib.hid (One.new w conv soft seq size opn 23).drew
  have HC := Lib.hid fun w' (h : One w w' conv soft seq size opn) => (ropened_any A n cap L w' hm hn w'.heap.size (hr.one h)).mono fun e w'' (hp : e = .returned (.int .i64 (cnt L)) ∧ w' = w'') => (⟨hp.1, hp.2 ▸ h⟩ : e = .returned (.int .i64 (cnt L)) ∧ One w w'' conv soft seq size opn)
  obtain ⟨q1, q2, q3, q4, q5⟩ := H
  have hq0 := IntWalk.i64_in (conv + seq) (by omega)
  have HN := Lib.hid hn
  clear hn
  unfold maxLen at hm
  by_cases hne : (n : Int) = conv + seq
  rotate_left
  · have hq : ((n : Int) != conv + seq) = true := by simpa using hne
    have HD := Lib.hid (fit_no (conv := conv) (seq := seq) (size := size) (opn := opn) (L := L) (fun h => hne (by rw [← h.1, HN.out])))
    go_enter Try.func10, Try.ntmps10
    go_wp2
    refine wp_region_class (fun w' => One w w' conv soft seq size opn) (by kernel_rfl) (by kernel_rfl) H0.out ?_
    intro X hX f hf hg
    have c0 := fun x => (hf x).1.1
    have c1 := fun x => (hf x).1.2.1
    have c2 := fun x => (hf x).1.2.2.1
    have c3 := fun x => (hf x).1.2.2.2.1
    have c4 := fun x => (hf x).1.2.2.2.2.1
    have Hf := Lib.hid hf
    have Hg := Lib.hid hg
    clear hf hg H0
    repeat (go_big_quiet_step (exact calls_class (HC.out _ (Hf.out _)) (fun _ hb => Hg.out _ hb)))
    refine wpQuiet_nil ?_
    rintro _ ⟨x, rfl⟩
    have hbb := (Hf.out x).2
    go_wp2
    go_ret
    exact ⟨ret_bool HD.out, hbb⟩
  have hq : ((n : Int) != conv + seq) = false := by simpa using hne
  by_cases ho : opn < (cnt L : Int)
  · have HD := Lib.hid (fit_no (conv := conv) (seq := seq) (size := size) (opn := opn) (L := L) (fun h => by have := h.2.1; omega))
    have hd : decide (opn < (cnt L : Int)) = true := decide_eq_true ho
    go_enter Try.func10, Try.ntmps10
    go_wp2
    refine wp_region_class (fun w' => One w w' conv soft seq size opn) (by kernel_rfl) (by kernel_rfl) H0.out ?_
    intro X hX f hf hg
    have c0 := fun x => (hf x).1.1
    have c1 := fun x => (hf x).1.2.1
    have c2 := fun x => (hf x).1.2.2.1
    have c3 := fun x => (hf x).1.2.2.2.1
    have c4 := fun x => (hf x).1.2.2.2.2.1
    have Hf := Lib.hid hf
    have Hg := Lib.hid hg
    clear hf hg H0
    repeat (go_big_quiet_step (exact calls_class (HC.out _ (Hf.out _)) (fun _ hb => Hg.out _ hb)))
    refine wpQuiet_nil ?_
    rintro _ ⟨x, rfl⟩
    have hbb := (Hf.out x).2
    go_wp2
    go_ret
    exact ⟨ret_bool HD.out, hbb⟩
  have hd : decide (opn < (cnt L : Int)) = false := decide_eq_false ho
  go_enter Try.func10, Try.ntmps10
  go_wp2
  refine wp_region_class (fun w' => One w w' conv soft seq size opn) (by kernel_rfl) (by kernel_rfl) H0.out ?_
  intro X hX f hf hg
  have c0 := fun x => (hf x).1.1
  have c1 := fun x => (hf x).1.2.1
  have c2 := fun x => (hf x).1.2.2.1
  have c3 := fun x => (hf x).1.2.2.2.1
  have c4 := fun x => (hf x).1.2.2.2.2.1
  have Hf := Lib.hid hf
  have Hg := Lib.hid hg
  clear hf hg H0
  repeat (go_big_quiet_step (exact calls_class (HC.out _ (Hf.out _)) (fun _ hb => Hg.out _ hb)))
  refine wpQuiet_nil ?_
  rintro _ ⟨x, rfl⟩
  have hbb := (Hf.out x).2
  have H1 := Lib.hid (Hf.out x)
  clear c0 c1 c2 c3 c4 Hf Hg hbb HC
  generalize f x = w1 at H1 ⊢
  clear x f hX hd
  go_wp2_with fail
  go_loopw [5] (fun i wr => ∃ k : Nat, k ≤ n ∧ i = .int .i64 k ∧ (∀ i, i < k → fitZ conv size i (L.getD i (0, 0))) ∧ One w wr conv soft seq size opn) (fun i _ => n - (intOf i).toNat)
  case atStart => exact ⟨0, by omega, rfl, fun i hi => absurd hi (Nat.not_lt_zero i), H1.out⟩
  case round =>
    clear H1
    obtain ⟨k, hk, rfl, hfit, hx⟩ := hrel
    have Hfit := Lib.hid hfit
    have HX := Lib.hid hx
    obtain ⟨c0, c1, c2, c3, c4, hlt5⟩ := id hx.1
    clear hfit
    by_cases hlt : k < n
    rotate_left
    · obtain rfl : n = k := by omega
      have HD := Lib.hid (show fitB conv seq size opn L = true by rw [fit_all (by rw [HN.out]; exact hne) (by rw [HN.out]; exact Hfit.out)]; exact decide_eq_true (by omega))
      clear Hfit hx hr
      go_wp2
      go_ret
      exact ⟨ret_bool HD.out, HX.out.2⟩
    have hz := getD_of (L := L) (k := k) (d := (0, 0)) (by rw [HN.out]; exact hlt)
    obtain ⟨ad, rfl, _, hc, hc1⟩ := (hr.one hx).zone hz
    generalize L.getD k (0, 0) = z at *
    obtain ⟨s, p⟩ := z
    have HZK := Lib.hid hz
    clear hz hr hx
    by_cases h1 : (k : Int) < conv
    · have HL := Lib.hid (fit_lo (size := size) (z := (s, p)) h1)
      by_cases h2 : s = 4
      rotate_left
      · have n2 : (s != 4) = true := by simpa using h2
        have HF := Lib.hid (fit_no (fit_bad (seq := seq) (opn := opn) HZK.out (fun h => h2 (HL.out.1 h).1)))
        go_wp2
        go_ret
        exact ⟨ret_bool HF.out, HX.out.2⟩
      by_cases h3 : p = 0
      rotate_left
      · have n2 : (s != 4) = false := by simpa using h2
        have n3 : (p != 0) = true := by simpa using h3
        have HF := Lib.hid (fit_no (fit_bad (seq := seq) (opn := opn) HZK.out (fun h => h3 (HL.out.1 h).2)))
        go_wp2
        go_ret
        exact ⟨ret_bool HF.out, HX.out.2⟩
      subst h2 h3
      have HF := Lib.hid (fit_ext Hfit.out HZK.out (HL.out.2 ⟨rfl, rfl⟩))
      clear Hfit
      go_wp2
      go_roundw
      case rel => exact ⟨k + 1, by omega, by go_num, HF.out, HX.out⟩
      case measure => simp [intOf]; omega
    · have hd1 : decide ((k : Int) < conv) = false := decide_eq_false h1
      have HL := Lib.hid (fit_hi (size := size) (z := (s, p)) (show conv ≤ (k : Int) by omega))
      by_cases g1 : s < 0
      · have e1 := g1
        have HF := Lib.hid (fit_no (fit_bad (seq := seq) (opn := opn) HZK.out (fun h => absurd (HL.out.1 h) (by unfold seqB; simp; omega))))
        go_wp2
        go_ret
        exact ⟨ret_bool HF.out, HX.out.2⟩
      have n1 : decide (s < 0) = false := decide_eq_false g1
      by_cases g2 : 3 < s
      · have e1 := g2
        have HF := Lib.hid (fit_no (fit_bad (seq := seq) (opn := opn) HZK.out (fun h => absurd (HL.out.1 h) (by unfold seqB; simp; omega))))
        go_wp2
        go_ret
        exact ⟨ret_bool HF.out, HX.out.2⟩
      have n2 : decide (3 < s) = false := decide_eq_false g2
      by_cases g3 : p < 0
      · have e1 := g3
        have HF := Lib.hid (fit_no (fit_bad (seq := seq) (opn := opn) HZK.out (fun h => absurd (HL.out.1 h) (by unfold seqB; simp; omega))))
        go_wp2
        go_ret
        exact ⟨ret_bool HF.out, HX.out.2⟩
      have n3 : decide (p < 0) = false := decide_eq_false g3
      by_cases g4 : size < p
      · have e1 := g4
        have HF := Lib.hid (fit_no (fit_bad (seq := seq) (opn := opn) HZK.out (fun h => absurd (HL.out.1 h) (by unfold seqB; simp; omega))))
        go_wp2
        go_ret
        exact ⟨ret_bool HF.out, HX.out.2⟩
      have n4 : decide (size < p) = false := decide_eq_false g4
      by_cases g5 : s = 0
      · subst g5
        by_cases g6 : ¬ p = 0
        · have e2 : (p != 0) = true := by simpa using g6
          have HF := Lib.hid (fit_no (fit_bad (seq := seq) (opn := opn) HZK.out (fun h => absurd (HL.out.1 h) (by unfold seqB; simp; omega))))
          go_wp2
          go_ret
          exact ⟨ret_bool HF.out, HX.out.2⟩
        have e2 : (p != 0) = false := by simpa using g6
        have HF := Lib.hid (fit_ext Hfit.out HZK.out (HL.out.2 (by unfold seqB; simp <;> omega)))
        clear Hfit
        go_wp2
        go_roundw
        case rel => exact ⟨k + 1, by omega, by go_num, HF.out, HX.out⟩
        case measure => simp [intOf]; omega
      have n5 : (s == 0) = false := by simpa using g5
      by_cases g6 : s = 1
      · subst g6
        by_cases g7 : p = size
        · have e2 : (p == size) = true := by simpa using g7
          have HF := Lib.hid (fit_no (fit_bad (seq := seq) (opn := opn) HZK.out (fun h => absurd (HL.out.1 h) (by unfold seqB; simp; omega))))
          go_wp2
          go_ret
          exact ⟨ret_bool HF.out, HX.out.2⟩
        have e2 : (p == size) = false := by simpa using g7
        have HF := Lib.hid (fit_ext Hfit.out HZK.out (HL.out.2 (by unfold seqB; simp; omega)))
        clear Hfit
        go_wp2
        go_roundw
        case rel => exact ⟨k + 1, by omega, by go_num, HF.out, HX.out⟩
        case measure => simp [intOf]; omega
      have n6 : (s == 1) = false := by simpa using g6
      by_cases g7 : s = 2
      · subst g7
        by_cases g8 : p = size
        · have e2 : (p == size) = true := by simpa using g8
          have HF := Lib.hid (fit_no (fit_bad (seq := seq) (opn := opn) HZK.out (fun h => absurd (HL.out.1 h) (by unfold seqB; simp; omega))))
          go_wp2
          go_ret
          exact ⟨ret_bool HF.out, HX.out.2⟩
        have e2 : (p == size) = false := by simpa using g8
        by_cases g9 : p = 0
        · have e3 : (p == 0) = true := by simpa using g9
          have HF := Lib.hid (fit_no (fit_bad (seq := seq) (opn := opn) HZK.out (fun h => absurd (HL.out.1 h) (by unfold seqB; simp; omega))))
          go_wp2
          go_ret
          exact ⟨ret_bool HF.out, HX.out.2⟩
        have e3 : (p == 0) = false := by simpa using g9
        have HF := Lib.hid (fit_ext Hfit.out HZK.out (HL.out.2 (by unfold seqB; simp; omega)))
        clear Hfit
        go_wp2
        go_roundw
        case rel => exact ⟨k + 1, by omega, by go_num, HF.out, HX.out⟩
        case measure => simp [intOf]; omega
      have n7 : (s == 2) = false := by simpa using g7
      obtain rfl : s = 3 := by omega
      have HF := Lib.hid (fit_ext Hfit.out HZK.out (HL.out.2 (by unfold seqB; simp; omega)))
      clear Hfit
      go_wp2
      go_roundw
      case rel => exact ⟨k + 1, by omega, by go_num, HF.out, HX.out⟩
      case measure => simp [intOf]; omega
end Go.Proofs.Ytnpnnejopibjcaa

/-
  ZoneJ ZoneK
-/
import Derived.Test.YtkdhibjmfanhcaaMg15
import Derived.Test.YtkdhibjmfanhcaaMg03
import Derived.Deep.RegionHeld3
/-
  Are zones right? By the document.
-/
namespace Go.Proofs.Ytkdhibjmfanhcaa
open Go.RowKit Geom Zone
set_option linter.unusedVariables false

set_option maxRecDepth 100000 in
set_option maxHeartbeats 4000000 in
theorem rzright_any (conv soft seq size opn : Int) (A : Option Addr) (n cap : Nat) (L : List Z) (w : World) (hm : n ≤ maxLen) (hn : L.length = n) (H : Some conv seq size) (hr : Rd w w.heap.size A (zc L)) :
    Calls Try.prog 18 #[.agg #[.int .i64 conv, .int .i64 soft, .int .i64 seq, .int .i64 size, .int .i64 opn], .slice A n cap] w fun e w' => e = .returned (.bool (fitB conv seq size opn L)) ∧ Below w.heap.size w w' := by
  have H0 := Lib.hid (One.new w conv soft seq size opn 23).drew
  have HC := Lib.hid fun w' (h : One w w' conv soft seq size opn) => (ropened_any A n cap L w' hm hn w'.heap.size (hr.one h)).mono fun e w'' (hp : e = .returned (.int .i64 (cnt L)) ∧ w' = w'') => (⟨hp.1, hp.2 ▸ h⟩ : e = .returned (.int .i64 (cnt L)) ∧ One w w'' conv soft seq size opn)
  obtain ⟨q1, q2, q3, q4, q5⟩ := H
  have hq0 := IntWalk.i64_in (conv + seq) (by omega)
  have HN := Lib.hid hn
  clear hn
  unfold maxLen at hm
  by_cases hne : (n : Int) = conv + seq
  rotate_left
  · have hq : ((n : Int) != conv + seq) = true := by simpa using hne
    have HD := Lib.hid (fit_no (conv := conv) (seq := seq) (size := size) (opn := opn) (L := L) (fun h => hne (by rw [← h.1, HN.out])))
    go_enter Try.func18, Try.ntmps18
    go_wp2
    refine wp_region_class (fun w' => One w w' conv soft seq size opn) (by kernel_rfl) (by kernel_rfl) H0.out ?_
    intro X hX f hf hg
    have c0 := fun x => (hf x).1.1
    have c1 := fun x => (hf x).1.2.1
    have c2 := fun x => (hf x).1.2.2.1
    have c3 := fun x => (hf x).1.2.2.2.1
    have c4 := fun x => (hf x).1.2.2.2.2.1
    have Hf := Lib.hid hf
    have Hg := Lib.hid hg
    clear hf hg H0
    repeat (go_big_quiet_step (exact calls_class (HC.out _ (Hf.out _)) (fun _ hb => Hg.out _ hb)))
    refine wpQuiet_nil ?_
    rintro _ ⟨x, rfl⟩
    have hbb := (Hf.out x).2
    go_wp2
    go_ret
    exact ⟨ret_bool HD.out, hbb⟩
  have hq : ((n : Int) != conv + seq) = false := by simpa using hne
  by_cases ho : opn < (cnt L : Int)
  · have HD := Lib.hid (fit_no (conv := conv) (seq := seq) (size := size) (opn := opn) (L := L) (fun h => by have := h.2.1; omega))
    have hd : decide (opn < (cnt L : Int)) = true := decide_eq_true ho
    go_enter Try.func18, Try.ntmps18
    go_wp2
    refine wp_region_class (fun w' => One w w' conv soft seq size opn) (by kernel_rfl) (by kernel_rfl) H0.out ?_
    intro X hX f hf hg
    have c0 := fun x => (hf x).1.1
    have c1 := fun x => (hf x).1.2.1
    have c2 := fun x => (hf x).1.2.2.1
    have c3 := fun x => (hf x).1.2.2.2.1
    have c4 := fun x => (hf x).1.2.2.2.2.1
    have Hf := Lib.hid hf
    have Hg := Lib.hid hg
    clear hf hg H0
    repeat (go_big_quiet_step (exact calls_class (HC.out _ (Hf.out _)) (fun _ hb => Hg.out _ hb)))
    refine wpQuiet_nil ?_
    rintro _ ⟨x, rfl⟩
    have hbb := (Hf.out x).2
    go_wp2
    go_ret
    exact ⟨ret_bool HD.out, hbb⟩
  have hd : decide (opn < (cnt L : Int)) = false := decide_eq_false ho
  go_enter Try.func18, Try.ntmps18
  go_wp2
  refine wp_region_class (fun w' => One w w' conv soft seq size opn) (by kernel_rfl) (by kernel_rfl) H0.out ?_
  intro X hX f hf hg
  have c0 := fun x => (hf x).1.1
  have c1 := fun x => (hf x).1.2.1
  have c2 := fun x => (hf x).1.2.2.1
  have c3 := fun x => (hf x).1.2.2.2.1
  have c4 := fun x => (hf x).1.2.2.2.2.1
  have Hf := Lib.hid hf
  have Hg := Lib.hid hg
  clear hf hg H0
  repeat (go_big_quiet_step (exact calls_class (HC.out _ (Hf.out _)) (fun _ hb => Hg.out _ hb)))
  refine wpQuiet_nil ?_
  rintro _ ⟨x, rfl⟩
  have hbb := (Hf.out x).2
  have H1 := Lib.hid (Hf.out x)
  clear c0 c1 c2 c3 c4 Hf Hg hbb HC
  generalize f x = w1 at H1 ⊢
  clear x f hX hd
  go_wp2_with fail
  go_loopw [5] (fun i wr => ∃ k : Nat, k ≤ n ∧ i = .int .i64 k ∧ (∀ i, i < k → fitZ conv size i (L.getD i (0, 0))) ∧ One w wr conv soft seq size opn) (fun i _ => n - (intOf i).toNat)
  case atStart => exact ⟨0, by omega, rfl, fun i hi => absurd hi (Nat.not_lt_zero i), H1.out⟩
  case round =>
    clear H1
    obtain ⟨k, hk, rfl, hfit, hx⟩ := hrel
    have Hfit := Lib.hid hfit
    have HX := Lib.hid hx
    obtain ⟨c0, c1, c2, c3, c4, hlt5⟩ := id hx.1
    clear hfit
    by_cases hlt : k < n
    rotate_left
    · obtain rfl : n = k := by omega
      have HD := Lib.hid (show fitB conv seq size opn L = true by rw [fit_all (by rw [HN.out]; exact hne) (by rw [HN.out]; exact Hfit.out)]; exact decide_eq_true (by omega))
      clear Hfit hx hr
      go_wp2
      go_ret
      exact ⟨ret_bool HD.out, HX.out.2⟩
    have hz := getD_of (L := L) (k := k) (d := (0, 0)) (by rw [HN.out]; exact hlt)
    obtain ⟨ad, rfl, _, hc, hc1⟩ := (hr.one hx).zone hz
    generalize L.getD k (0, 0) = z at *
    obtain ⟨s, p⟩ := z
    have HZK := Lib.hid hz
    clear hz hr hx
    by_cases h1 : (k : Int) < conv
    · have HL := Lib.hid (fit_lo (size := size) (z := (s, p)) h1)
      by_cases h2 : s = 4
      rotate_left
      · have n2 : (s != 4) = true := by simpa using h2
        have HF := Lib.hid (fit_no (fit_bad (seq := seq) (opn := opn) HZK.out (fun h => h2 (HL.out.1 h).1)))
        go_wp2
        go_ret
        exact ⟨ret_bool HF.out, HX.out.2⟩
      by_cases h3 : p = 0
      rotate_left
      · have n2 : (s != 4) = false := by simpa using h2
        have n3 : (p != 0) = true := by simpa using h3
        have HF := Lib.hid (fit_no (fit_bad (seq := seq) (opn := opn) HZK.out (fun h => h3 (HL.out.1 h).2)))
        go_wp2
        go_ret
        exact ⟨ret_bool HF.out, HX.out.2⟩
      subst h2 h3
      have HF := Lib.hid (fit_ext Hfit.out HZK.out (HL.out.2 ⟨rfl, rfl⟩))
      clear Hfit
      go_wp2
      go_roundw
      case rel => exact ⟨k + 1, by omega, by go_num, HF.out, HX.out⟩
      case measure => simp [intOf]; omega
    · have hd1 : decide ((k : Int) < conv) = false := decide_eq_false h1
      have HL := Lib.hid (fit_hi (size := size) (z := (s, p)) (show conv ≤ (k : Int) by omega))
      by_cases g1 : s < 0
      · have e1 := g1
        have HF := Lib.hid (fit_no (fit_bad (seq := seq) (opn := opn) HZK.out (fun h => absurd (HL.out.1 h) (by unfold seqB; simp; omega))))
        go_wp2
        go_ret
        exact ⟨ret_bool HF.out, HX.out.2⟩
      have n1 : decide (s < 0) = false := decide_eq_false g1
      by_cases g2 : 3 < s
      · have e1 := g2
        have HF := Lib.hid (fit_no (fit_bad (seq := seq) (opn := opn) HZK.out (fun h => absurd (HL.out.1 h) (by unfold seqB; simp; omega))))
        go_wp2
        go_ret
        exact ⟨ret_bool HF.out, HX.out.2⟩
      have n2 : decide (3 < s) = false := decide_eq_false g2
      by_cases g3 : p < 0
      · have e1 := g3
        have HF := Lib.hid (fit_no (fit_bad (seq := seq) (opn := opn) HZK.out (fun h => absurd (HL.out.1 h) (by unfold seqB; simp; omega))))
        go_wp2
        go_ret
        exact ⟨ret_bool HF.out, HX.out.2⟩
      have n3 : decide (p < 0) = false := decide_eq_false g3
      by_cases g4 : size < p
      · have e1 := g4
        have HF := Lib.hid (fit_no (fit_bad (seq := seq) (opn := opn) HZK.out (fun h => absurd (HL.out.1 h) (by unfold seqB; simp; omega))))
        go_wp2
        go_ret
        exact ⟨ret_bool HF.out, HX.out.2⟩
      have n4 : decide (size < p) = false := decide_eq_false g4
      by_cases g5 : s = 0
      · subst g5
        by_cases g6 : ¬ p = 0
        · have e2 : (p != 0) = true := by simpa using g6
          have HF := Lib.hid (fit_no (fit_bad (seq := seq) (opn := opn) HZK.out (fun h => absurd (HL.out.1 h) (by unfold seqB; simp; omega))))
          go_wp2
          go_ret
          exact ⟨ret_bool HF.out, HX.out.2⟩
        have e2 : (p != 0) = false := by simpa using g6
        have HF := Lib.hid (fit_ext Hfit.out HZK.out (HL.out.2 (by unfold seqB; simp <;> omega)))
        clear Hfit
        go_wp2
        go_roundw
        case rel => exact ⟨k + 1, by omega, by go_num, HF.out, HX.out⟩
        case measure => simp [intOf]; omega
      have n5 : (s == 0) = false := by simpa using g5
      by_cases g6 : s = 1
      · subst g6
        by_cases g7 : p = size
        · have e2 : (p == size) = true := by simpa using g7
          have HF := Lib.hid (fit_no (fit_bad (seq := seq) (opn := opn) HZK.out (fun h => absurd (HL.out.1 h) (by unfold seqB; simp; omega))))
          go_wp2
          go_ret
          exact ⟨ret_bool HF.out, HX.out.2⟩
        have e2 : (p == size) = false := by simpa using g7
        have HF := Lib.hid (fit_ext Hfit.out HZK.out (HL.out.2 (by unfold seqB; simp; omega)))
        clear Hfit
        go_wp2
        go_roundw
        case rel => exact ⟨k + 1, by omega, by go_num, HF.out, HX.out⟩
        case measure => simp [intOf]; omega
      have n6 : (s == 1) = false := by simpa using g6
      by_cases g7 : s = 2
      · subst g7
        by_cases g8 : p = size
        · have e2 : (p == size) = true := by simpa using g8
          have HF := Lib.hid (fit_no (fit_bad (seq := seq) (opn := opn) HZK.out (fun h => absurd (HL.out.1 h) (by unfold seqB; simp; omega))))
          go_wp2
          go_ret
          exact ⟨ret_bool HF.out, HX.out.2⟩
        have e2 : (p == size) = false := by simpa using g8
        by_cases g9 : p = 0
        · have e3 : (p == 0) = true := by simpa using g9
          have HF := Lib.hid (fit_no (fit_bad (seq := seq) (opn := opn) HZK.out (fun h => absurd (HL.out.1 h) (by unfold seqB; simp; omega))))
          go_wp2
          go_ret
          exact ⟨ret_bool HF.out, HX.out.2⟩
        have e3 : (p == 0) = false := by simpa using g9
        have HF := Lib.hid (fit_ext Hfit.out HZK.out (HL.out.2 (by unfold seqB; simp; omega)))
        clear Hfit
        go_wp2
        go_roundw
        case rel => exact ⟨k + 1, by omega, by go_num, HF.out, HX.out⟩
        case measure => simp [intOf]; omega
      have n7 : (s == 2) = false := by simpa using g7
      obtain rfl : s = 3 := by omega
      have HF := Lib.hid (fit_ext Hfit.out HZK.out (HL.out.2 (by unfold seqB; simp; omega)))
      clear Hfit
      go_wp2
      go_roundw
      case rel => exact ⟨k + 1, by omega, by go_num, HF.out, HX.out⟩
      case measure => simp [intOf]; omega
end Go.Proofs.Ytkdhibjmfanhcaa

/-
  Package zone: one of the zones is turned by a function that is handed over.
-/
namespace Go.Proofs.Ytkdhibjmfanhcaa
open Go.RowKit Geom Zone
set_option linter.unusedVariables false

set_option maxRecDepth 100000 in
set_option maxHeartbeats 4000000 in
theorem turned_any (F : FuncId) (cap2 : Array Value) (T : Bool → Z → Z × Int) (conv soft seq size opn zone : Int) (A : Option Addr) (n cap : Nat) (L : List Z) (w : World) (hm : n ≤ 1000) (hn : L.length = n) (H : Some conv seq size) (hns : (n : Int) = conv + seq) (hr : Rd w w.heap.size A (zc L))
    (hE : ∀ (args : Array Value) (w' : World), (callFunc F args).run Try.prog w' = .ok (.enter F args) w')
    (hF : ∀ (s p : Int) (b : Bool) (w' : World), Below w.heap.size w w' → Calls Try.prog F (#[.agg #[.int .i64 s, .int .i64 p], .bool b] ++ cap2) w' fun e w'' => e = .returned (.tuple #[.agg #[.int .i64 (T b (s, p)).1.1, .int .i64 (T b (s, p)).1.2], .int .i64 (T b (s, p)).2]) ∧ Below w'.heap.size w' w'') :
    Calls Try.prog 65 #[.agg #[.int .i64 conv, .int .i64 soft, .int .i64 seq, .int .i64 size, .int .i64 opn], .slice A n cap, .int .i64 zone, .func (.func F) #[] cap2] w fun e w' =>
      ∃ g c, e = .returned (.tuple #[.slice (some ⟨g, 0, none⟩) n c, .int .i64 (turnL T conv seq opn L zone).2]) ∧ w'.ownsRow w.heap.size 53 2 (.slice (some ⟨g, 0, none⟩) n c) n (zc (turnL T conv seq opn L zone).1) ∧ Below w.heap.size w w' := by
  have HH := Lib.hid fun w => has_any conv soft seq size opn zone A n cap w H hns
  have HK := Lib.hid fun w => clone_any A n cap L w hm hn (by have := H.1; have := H.2.1; omega)
  have H0 := Lib.hid (One.new w conv soft seq size opn 23)
  have Hns := Lib.hid hns
  have HN := Lib.hid hn
  have HR := Lib.hid hr
  by_cases hz : hasB conv seq zone = true
  · obtain ⟨hz0, hz1⟩ := has_in hz
    obtain ⟨k, rfl⟩ : ∃ k : Nat, zone = (k : Int) := ⟨zone.toNat, by omega⟩
    have hk : k < n := by omega
    rw [hz] at HH
    have hzk := getD_of (L := L) (k := k) (d := (0, 0)) (by omega)
    generalize L.getD k (0, 0) = z at hzk
    have HC := Lib.hid fun w' (h : Below w.heap.size w w') => countOpen_any A n cap L w' (by simp only [maxLen]; omega) hn ((hr.below h).more h.size)
    have HF := Lib.hid fun w' (hB : Below w.heap.size w w') => hF z.1 z.2 (decide ((cnt L : Int) < opn)) w' hB
    generalize hT : T (decide ((cnt L : Int) < opn)) (z.1, z.2) = r at HF
    obtain ⟨⟨ts, tp⟩, te⟩ := r
    rw [turnL_yes hz hzk hT]
    have HZK := Lib.hid hzk
    clear hF hT hr hn hns hz hz0 hz1 hzk
    go_enter Try.func65, Try.ntmps65
    go_wp2_with fail
    generalize World.alloc _ _ = w0 at H0 ⊢
    refine (HK.out _ (HR.out.one H0.out)).mono ?_
    rintro e w1 ⟨g, c, rfl, hown, hb⟩
    have H1 := Lib.hid (One.below H0.out hb)
    have hown := own_base hown H0.out.2.size
    clear H0 hb
    obtain ⟨c0, c1, c2, c3, c4, hlt⟩ := id H1.out.1
    go_wp2_with fail
    refine (HH.out _).mono ?_
    rintro e w2 ⟨rfl, hb⟩
    have H2 := Lib.hid (One.below H1.out hb)
    have hown2 := own_below hown hb
    obtain ⟨g1, hgA, hgw, hg⟩ := own_at hown2 (by omega)
    obtain rfl : g = g1 := by injection hgA with h; injection h
    clear c0 c1 c2 c3 c4 hlt H1 hb hown hgA
    obtain ⟨c0, c1, c2, c3, c4, hlt⟩ := id H2.out.1
    have d0 := hown2.cellAt (k * 2) (by omega)
    have d1 := hown2.cellAt (k * 2 + 1) (by omega)
    rw [zc_get0 HZK.out] at d0
    rw [zc_get1 HZK.out] at d1
    have Hb := Lib.hid H2.out.2
    have Hown := Lib.hid hown2
    have SO := Lib.hid fun w' (h : Below w2.heap.size w2 w') => (⟨(h.cell (p := ⟨w.heap.size, 4, none⟩) hlt).trans c4, (h.cell (p := ⟨g, k * 2, none⟩) hg).trans d0, (h.cell (p := ⟨g, k * 2 + 1, none⟩) hg).trans d1⟩ :
      w'.cell? ⟨w.heap.size, 4, none⟩ = some (.int .i64 opn) ∧ w'.cell? ⟨g, k * 2, none⟩ = some (.int .i64 z.1) ∧ w'.cell? ⟨g, k * 2 + 1, none⟩ = some (.int .i64 z.2))
    have hkI : (k : Int) < (n : Int) := by omega
    clear c0 c1 c2 c3 hown2 H2
    go_wp2_with fail
    first | go_region_held3 (fun w' => w'.cell? ⟨w.heap.size, 4, none⟩ = some (.int .i64 opn) ∧ w'.cell? ⟨g, k * 2, none⟩ = some (.int .i64 z.1) ∧ w'.cell? ⟨g, k * 2 + 1, none⟩ = some (.int .i64 z.2))
      (first | exact SO.out _ B4 | exact SO.out _ (B4.alloc B4.size _) | exact SO.out _ B3 | exact SO.out _ (B3.alloc B3.size _) | exact SO.out _ (Below.refl _ _).drew | exact SO.out _ ((Below.refl _ _).alloc (Nat.le_refl _) _).drew | exact SO.out _ ((B4.setCell (by have := B3.size; simp <;> omega) _).setCell (by have := B3.size; simp <;> omega) _))
      ((first
        | ((with_reducible refine (HC.out _ (by first | exact bthen Hb.out (Below.refl _ _).drew | exact bthen Hb.out ((Below.refl _ _).alloc (Nat.le_refl _) _).drew)).mono ?_); rintro e w3 ⟨rfl, hb3⟩; have B3 : Below w2.heap.size w2 w3 := (by first | exact bthen (Below.refl _ _).drew hb3 | exact bthen ((Below.refl _ _).alloc (Nat.le_refl _) _).drew hb3); obtain ⟨kcl, kfz⟩ := bcell hb3; try (have ks : w2.heap.size < w3.heap.size := by have := hb3.size; simp at this; omega))
        | ((with_reducible refine (HF.out _ (by first | exact bthen Hb.out B3 | exact bthen Hb.out (B3.alloc B3.size _))).mono ?_); rintro e w4 ⟨rfl, hb4⟩; have B4 : Below w2.heap.size w2 w4 := (by first | exact bthen B3 hb4 | exact bthen (B3.alloc B3.size _) hb4); obtain ⟨hcl, hfz⟩ := bcell hb4))) | fail
    all_goals
      have hs3 := B3.size
      first
      | (have q0 := (hcl w3.heap.size 0 (by simp)).trans (new_cells w3 (.int .i64 0) (.int .i64 0) 53 (0, 0)).1
         have q1 := (hcl w3.heap.size 1 (by simp)).trans (new_cells w3 (.int .i64 0) (.int .i64 0) 53 (0, 0)).2
         have f0 := set_at q0 (.int .i64 ts)
         have f1 := set_at (set_off q1 (.int .i64 ts) (show (⟨w3.heap.size, 0, none⟩ : Addr) ≠ ⟨w3.heap.size, 1, none⟩ by simp)) (.int .i64 tp)
         have BW := Lib.hid ((B4.setCell (p := ⟨w3.heap.size, 0, none⟩) hs3 (.int .i64 ts)).setCell (p := ⟨w3.heap.size, 1, none⟩) hs3 (.int .i64 tp))
         clear hcl hfz kcl kfz hb3 hb4 B3 B4 SO HC HF
         go_wp2_with ((with_reducible refine wpList_store_zone _ (o := ⟨none, .store _ _ _, _, _, _, _⟩) rfl _ _ _ rfl _ g n c k _ L (ts, tp) (own_below Hown.out BW.out) hk rfl rfl rfl ?_); intro w5 hown5 hg5; have Hown5 := Lib.hid hown5; have Hg5 := Lib.hid hg5; clear hown5 hg5))
      | (have q0 := (hcl w2.heap.size 0 (by omega)).trans ((kcl w2.heap.size 0 (by simp)).trans (new_cells w2 (.int .i64 0) (.int .i64 0) 53 (0, 0)).1)
         have q1 := (hcl w2.heap.size 1 (by omega)).trans ((kcl w2.heap.size 1 (by simp)).trans (new_cells w2 (.int .i64 0) (.int .i64 0) 53 (0, 0)).2)
         have f0 := set_at q0 (.int .i64 ts)
         have f1 := set_at (set_off q1 (.int .i64 ts) (show (⟨w2.heap.size, 0, none⟩ : Addr) ≠ ⟨w2.heap.size, 1, none⟩ by simp)) (.int .i64 tp)
         have BW := Lib.hid ((B4.setCell (p := ⟨w2.heap.size, 0, none⟩) (Nat.le_refl _) (.int .i64 ts)).setCell (p := ⟨w2.heap.size, 1, none⟩) (Nat.le_refl _) (.int .i64 tp))
         clear hcl hfz kcl kfz hb3 hb4 B3 B4 SO HC HF
         go_wp2_with ((with_reducible refine wpList_store_zone _ (o := ⟨none, .store _ _ _, _, _, _, _⟩) rfl _ _ _ rfl _ g n c k _ L (ts, tp) (own_below Hown.out BW.out) hk rfl rfl rfl ?_); intro w5 hown5 hg5; have Hown5 := Lib.hid hown5; have Hg5 := Lib.hid hg5; clear hown5 hg5))
      | (have BW := Lib.hid (B4.alloc B4.size (.cells #[.int .i64 ts, .int .i64 tp] 53))
         clear hcl hfz kcl kfz hb3 hb4 B3 B4 SO HC HF
         go_wp2_with ((with_reducible refine wpList_store_zone _ (o := ⟨none, .store _ _ _, _, _, _, _⟩) rfl _ _ _ rfl _ g n c k _ L (ts, tp) (own_below Hown.out BW.out) hk rfl rfl rfl ?_); intro w5 hown5 hg5; have Hown5 := Lib.hid hown5; have Hg5 := Lib.hid hg5; clear hown5 hg5))
    all_goals
      go_ret2
      exact ⟨g, c, rfl, Hown5.out, below_stored (bthen Hb.out BW.out) Hg5.out (bthen Hb.out BW.out).size hgw⟩
  · have hz : hasB conv seq zone = false := by simpa using hz
    rw [hz] at HH
    rw [turnL_no hz]
    clear hF hr hn hns hz
    go_enter Try.func65, Try.ntmps65
    go_wp2_with fail
    generalize World.alloc _ _ = w0 at H0 ⊢
    refine (HK.out _ (HR.out.one H0.out)).mono ?_
    rintro e w1 ⟨g, c, rfl, hown, hb⟩
    have H1 := Lib.hid (One.below H0.out hb)
    have hown := own_base hown H0.out.2.size
    clear H0 hb
    obtain ⟨c0, c1, c2, c3, c4, hlt⟩ := id H1.out.1
    go_wp2_with fail
    refine (HH.out _).mono ?_
    rintro e w2 ⟨rfl, hb⟩
    have H2 := Lib.hid (One.below H1.out hb)
    have Hown2 := Lib.hid (own_below hown hb)
    clear c0 c1 c2 c3 c4 hlt H1 hb hown
    go_wp2
    go_ret2
    exact ⟨g, c, rfl, Hown2.out, H2.out.2⟩
end Go.Proofs.Ytkdhibjmfanhcaa

/-
  Layer 9: the law TableCounts.
-/
import Derived.Test.YtcligeajgbibnaaTbQ
namespace Go.Proofs.Ytcligeajgbibnaa
open Go.RowKit Leaf Tbl
set_option linter.unusedVariables false

theorem lfls_field {Y : List Int} {gen : Int} {P i j : Nat} (hY : Y.length = 10 * P) (hi : i < P) (hj : j < 10) (hin : ∀ l ∈ lfsOf Y gen P, In l) :
    (lfls (lfsOf Y gen P))[i * 12 + 1]? = some (.int .i64 i) ∧ (lfls (lfsOf Y gen P))[i * 12 + 2 + j]? = some (.int .i64 (Y.getD (i * 10 + j) 0)) := by
  have hl := lfsOf_get (ys := Y) (gen := gen) hi
  refine ⟨lfls_at hin hl (j := 1) rfl, ?_⟩
  rw [Nat.add_assoc]
  refine lfls_at hin hl ((lcs_place _ j).trans ?_)
  have h10 : (leafOf Y i).length = 10 := hin _ (List.mem_of_getElem? hl)
  rw [show (lfOf Y gen i).places = leafOf Y i from rfl, is_get (by omega), leafOf_get hj]
set_option maxRecDepth 100000 in
set_option maxHeartbeats 4000000 in
theorem tblaw_counts (n : Nat) (A : Option Addr) (len cap : Nat) (ts : List Pt) (w : World) (hn : n ≤ 255) (hm : len ≤ maxLen) (hts : ts.length = len) (hr : Rd w w.heap.size A (pls ts)) :
    Calls Try.prog 8 #[.int .u8 n, .slice A len cap] w fun e w' => e = .returned (.bool true) ∧ Below w.heap.size w w' := by
  have HTs := Lib.hid hts
  have HRd := Lib.hid hr
  clear hts hr
  go_enter Try.func8, Try.ntmps8
  go_wp2_with fail
  refine (awake9_any w).mono ?_
  rintro e w1 ⟨rfl, hb1⟩
  have B1 := Lib.hid hb1
  clear hb1
  by_cases h100 : 100 < len
  · go_wp2_with fail
    refine (awake9_any w1).mono ?_
    rintro e w2 ⟨rfl, hb2⟩
    have B2 := Lib.hid (bthen B1.out hb2)
    clear hb2
    go_wp2
    go_ret
    exact ⟨rfl, B2.out⟩
  have hlen : len ≤ 100 := by omega
  go_wp2_with fail
  refine (tbnew_any n w1 (by omega)).mono ?_
  rintro e w2 ⟨d, g, h, rfl, t2, hd2, hg2, hh2, hb2⟩
  have G2 : Hid (w.heap.size ≤ d ∧ w.heap.size ≤ g ∧ w.heap.size ≤ h) := Lib.hid (by have := B1.out.size; omega)
  have L2 : Hid (LSt w w2 d g h n (rnT n []).1 (rnT n []).2) := Lib.hid ⟨B1.out.trans (hb2.mono B1.out.size), t2⟩
  clear t2 hd2 hg2 hh2 hb2 B1
  go_wp2_with fail
  go_loopw [6] (fun i wr => ∃ k : Nat, k ≤ len ∧ i = .int .i64 k ∧ LSt w wr d g h n (rnT n (ts.take k)).1 (rnT n (ts.take k)).2) (fun i _ => len - (intOf i).toNat)
  case atStart => exact ⟨0, Nat.zero_le _, rfl, L2.out⟩
  case round =>
    clear L2
    obtain ⟨k, hk, rfl, HLS⟩ := hrel
    by_cases hlt : k < len
    · have hkl : k < ts.length := by rw [HTs.out]; exact hlt
      obtain ⟨t, ht⟩ : ∃ t, ts[k]? = some t := ⟨ts[k], by simp [hkl]⟩
      obtain ⟨ad, rfl, hadb, hcs⟩ := put_at HRd.out ht
      have HSn : Hid ((rnT n (ts.take (k + 1))).1 = putY n (rnT n (ts.take k)).1 t.b t.p ∧ (rnT n (ts.take (k + 1))).2 = putD n (rnT n (ts.take k)).1 (rnT n (ts.take k)).2 t.b t.p) := Lib.hid ⟨by rw [rnT_snoc ht]; rfl, by rw [rnT_snoc ht]; rfl⟩
      have HC : Hid (∀ W, LSt w W d g h n (rnT n (ts.take k)).1 (rnT n (ts.take k)).2 → W.cell? (ad.add (k * 3)) = some (.int .i64 t.b) ∧ W.cell? ⟨(ad.add (k * 3)).block, (ad.add (k * 3)).off + 1, none⟩ = some (.int .i64 t.p)) := Lib.hid fun W hW =>
        ⟨(hcs W (fun p hp => hW.1.cell hp)).1, (hcs W (fun p hp => hW.1.cell hp)).2.1⟩
      have hki : (k : Int) < (len : Int) := by omega
      clear hcs hkl ht hadb
      generalize (rnT n (ts.take k)).1 = Y at *
      generalize (rnT n (ts.take k)).2 = D at *
      have HL := Lib.hid HLS
      go_wp2_with fail
      refine wp_region_class_tail (fun w' => LSt w w' d g h n Y D) 11 (by kernel_rfl) (by kernel_rfl) HL.out.drew ?_
      intro X hX f hf hg
      have c0 := fun x => (HC.out _ (hf x)).1
      have c1 := fun x => (HC.out _ (hf x)).2
      have Hf := Lib.hid hf
      clear hf hg HLS
      simp only [List.take_succ_cons, List.take_zero, List.drop_succ_cons, List.drop_zero]
      repeat (go_big_quiet_step (fail))
      refine wpQuiet_nil ?_
      rintro _ ⟨x, rfl⟩
      have L := Hf.out x
      clear c0 c1 Hf
      generalize f x = W2 at L ⊢
      clear hX
      have HL2 := Lib.hid L
      clear L
      go_wp2_with fail
      refine (tset_any W2 t.b t.p HL2.out.2).mono ?_
      rintro e w4 ⟨rfl, t4, f4⟩
      have HL4 := Lib.hid (HL2.out.put t4 f4 G2.out.2.1 G2.out.2.2)
      clear t4 f4
      go_wp2
      go_roundw
      case rel => exact ⟨k + 1, by omega, by go_num, by rw [HSn.out.1, HSn.out.2]; exact HL4.out⟩
      case measure => simp [intOf]; omega
    · obtain rfl : len = k := by omega
      rw [List.take_of_length_le (by rw [HTs.out]; exact Nat.le_refl _)] at HLS
      have HL := Lib.hid HLS
      have HTZ := Lib.hid (rnT_tz n ts)
      clear HLS
      generalize (rnT n ts).1 = Y at *
      generalize (rnT n ts).2 = D at *
      have HLv := Lib.hid (tleaves_any wr 1 HL.out.2)
      have hpg := pages_le HL.out.2.hn
      have hup := pages_up n
      have hlo := pages_low n
      go_wp2_with fail
      refine HLv.out.mono ?_
      rintro e w3 ⟨b, rfl, x3, hb3, hbl3⟩
      have L3 := Lib.hid (HL.out.on hbl3)
      have X3 := Lib.hid x3
      have HIn := Lib.hid (lfsOf_in (gen := 1) HL.out.2.hy)
      have HYl := Lib.hid HL.out.2.hy
      clear x3 hb3 hbl3 HLv HL
      generalize hP : pages n = P at *
      have HP := Lib.hid hP
      clear hP
      go_wp2_with fail
      go_loopw [8, 9] (fun c i wr => ∃ k : Nat, k ≤ P ∧ i = .int .i64 k ∧ c = .int .i64 (cntT Y (k * 10) : Int) ∧ w3 = wr) (fun _ i _ => P - (intOf i).toNat)
      case atStart => exact ⟨0, Nat.zero_le _, rfl, rfl, rfl⟩
      case round =>
        obtain ⟨k, hk2, rfl, rfl, rfl⟩ := hrel
        by_cases hkP : k < P
        · have hki : (k : Int) < (P : Int) := by omega
          have c1 := (X3.out.cell (k * 12 + 1)).trans (lfls_field HYl.out hkP (j := 0) (by decide) HIn.out).1
          have hkk : ((k : Int) != (k : Int)) = false := by simp
          go_wp2_with fail
          go_loopw [8, 10] (fun c i wr => ∃ j : Nat, j ≤ 10 ∧ i = .int .i64 j ∧ c = .int .i64 (cntT Y (k * 10 + j) : Int) ∧ w3 = wr) (fun _ i _ => 10 - (intOf i).toNat)
          case atStart => exact ⟨0, Nat.zero_le _, rfl, rfl, rfl⟩
          case round =>
            obtain ⟨j, hj, rfl, rfl, rfl⟩ := hrel
            have hcl := cntT_le Y (k * 10 + j)
            by_cases hj10 : j < 10
            · have cj := (X3.out.cell (k * 12 + 2 + j)).trans (lfls_field HYl.out hkP hj10 HIn.out).2
              by_cases hz : Y.getD (k * 10 + j) 0 = 0
              · have HC := Lib.hid (cntT_no hz)
                rw [hz] at cj
                clear hz
                generalize cntT Y (k * 10 + j) = cv at *
                go_wp2
                go_roundw
                case rel => exact ⟨j + 1, by omega, by go_num, by rw [← Nat.add_assoc, HC.out], by first | rfl | trivial⟩
                case measure => simp [intOf]; omega
              · have HC := Lib.hid (cntT_yes hz)
                have hv : (Y.getD (k * 10 + j) 0 != 0) = true := by simpa using hz
                have hv2 : ¬ Y.getD (k * 10 + j) 0 = 0 := hz
                clear hz
                generalize Y.getD (k * 10 + j) 0 = x at *
                generalize cntT Y (k * 10 + j) = cv at *
                go_wp2
                go_roundw
                case rel => exact ⟨j + 1, by omega, by go_num, by rw [← Nat.add_assoc, HC.out]; go_num, by first | rfl | trivial⟩
                case measure => simp [intOf]; omega
            · obtain rfl : j = 10 := by omega
              have HE : Hid (k * 10 + 10 = (k + 1) * 10) := Lib.hid (by omega)
              generalize hcv : cntT Y (k * 10 + 10) = cv at *
              have HCV := Lib.hid hcv
              clear hcv
              go_wp2
              go_roundw
              case rel => exact ⟨k + 1, by omega, by go_num, by rw [← HE.out, HCV.out], by first | rfl | trivial⟩
              case measure => simp [intOf]; omega
        · obtain rfl : k = P := by omega
          have HCn : Hid (cntT Y (k * 10) = cntT Y n) := Lib.hid (cntT_tz HTZ.out _ (by omega))
          rw [HCn.out]
          have HC := Lib.hid (tcount_any w3 L3.out.2)
          have HD := Lib.hid (tdirty_any w3 L3.out.2)
          rw [HP.out] at HD
          have HIx := Lib.hid (idxs_length D k)
          generalize hcv : cntT Y n = cv at *
          have HCV := Lib.hid hcv
          clear hcv
          go_wp2_with fail
          refine HD.out.mono ?_
          rintro e w4 ⟨V, rfl, hown, hb4⟩
          obtain ⟨A4, c4, rfl⟩ := own_slice hown
          have L4 := Lib.hid (L3.out.on hb4)
          have hix := HIx.out
          clear hown hb4 HC HD L3
          have HC := Lib.hid (tcount_any w4 L4.out.2)
          rw [HCV.out] at HC
          generalize (idxs D k).length = di at *
          have hcc : ((cv : Int) == (cv : Int)) = true := by simp
          by_cases hk0 : k = 0
          · subst hk0
            go_wp2_with fail
            refine HC.out.mono ?_
            rintro e w5 ⟨rfl, rfl⟩
            go_wp2
            go_ret
            exact ⟨ret_bool (by first | (simp; done) | (simp; omega)), L4.out.1⟩
          · have hkz : ((k : Int) == 0) = false := by simpa using hk0
            go_wp2_with fail
            refine HC.out.mono ?_
            rintro e w5 ⟨rfl, rfl⟩
            go_wp2
            go_ret
            exact ⟨ret_bool (by first | (simp; done) | (simp; omega)), L4.out.1⟩
end Go.Proofs.Ytcligeajgbibnaa

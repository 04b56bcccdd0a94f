/-
  Layer 9: the law TableUndo.
-/
import Derived.Test.YtcligeajgbibnaaTbQ
namespace Go.Proofs.Ytcligeajgbibnaa
open Go.RowKit Leaf Tbl
set_option linter.unusedVariables false

namespace Tbl
theorem undo_at {n : Nat} {Y : List Int} {b p : Int} {i : Nat} (hi : i < n) (hY : n ≤ Y.length) :
    ((i : Int) ≠ b → ((putY n Y b p).take n).getD i 0 = (Y.take n).getD i 0) ∧ ((i : Int) = b → ((putY n Y b p).take n).getD i 0 = p ∧ (Y.take n).getD i 0 = getT n Y b) := by
  have e : ∀ Z : List Int, (Z.take n).getD i 0 = Z.getD i 0 := fun Z => by
    rw [List.getD_eq_getElem?_getD, List.getElem?_take, if_pos hi, ← List.getD_eq_getElem?_getD]
  rw [e, e]
  unfold putY
  by_cases hb : hasB n b = true
  · obtain ⟨j, rfl, hj⟩ := hasB_iff.1 hb
    rw [if_pos hb, Int.toNat_natCast]
    constructor
    · intro h
      rw [List.getD_eq_getElem?_getD, List.getElem?_set_ne (by omega), ← List.getD_eq_getElem?_getD]
    · intro h
      obtain rfl : i = j := by omega
      refine ⟨?_, (getT_nat hj).symm⟩
      rw [List.getD_eq_getElem?_getD, List.getElem?_set_self (by omega)]
      rfl
  · rw [if_neg hb]
    refine ⟨fun _ => rfl, fun h => ?_⟩
    exact absurd (hasB_iff.2 ⟨i, h.symm, hi⟩) hb
theorem undo_back {n : Nat} {Y : List Int} {b p : Int} : putY n (putY n Y b p) b (getT n Y b) = Y := by
  by_cases hb : hasB n b = true
  · obtain ⟨j, rfl, hj⟩ := hasB_iff.1 hb
    rw [putY_nat hj, putY_nat hj, getT_nat hj, List.set_set]
    exact set_self _ _
  · have hf : hasB n b = false := by simpa using hb
    rw [putY_no hf, putY_no hf]
end Tbl
set_option maxRecDepth 100000 in
set_option maxHeartbeats 4000000 in
theorem tblaw_undo (n : Nat) (A : Option Addr) (len cap : Nat) (ts : List Pt) (b p : Int) (w : World) (hn : n ≤ 255) (hm : len ≤ maxLen) (hts : ts.length = len) (hr : Rd w w.heap.size A (pls ts)) :
    Calls Try.prog 7 #[.int .u8 n, .slice A len cap, .int .i64 b, .int .i64 p] w fun e w' => e = .returned (.bool true) ∧ Below w.heap.size w w' := by
  have HTs := Lib.hid hts
  have HRd := Lib.hid hr
  clear hts hr
  go_enter Try.func7, Try.ntmps7
  go_wp2_with fail
  refine (awake9_any w).mono ?_
  rintro e w1 ⟨rfl, hb1⟩
  have B1 := Lib.hid hb1
  clear hb1
  by_cases h100 : 100 < len
  · go_wp2_with fail
    refine (awake9_any w1).mono ?_
    rintro e w2 ⟨rfl, hb2⟩
    have B2 := Lib.hid (bthen B1.out hb2)
    clear hb2
    go_wp2
    go_ret
    exact ⟨rfl, B2.out⟩
  have hlen : len ≤ 100 := by omega
  go_wp2_with fail
  refine (tbnew_any n w1 (by omega)).mono ?_
  rintro e w2 ⟨d, g, h, rfl, t2, hd2, hg2, hh2, hb2⟩
  have G2 : Hid (w.heap.size ≤ d ∧ w.heap.size ≤ g ∧ w.heap.size ≤ h) := Lib.hid (by have := B1.out.size; omega)
  have L2 : Hid (LSt w w2 d g h n (rnT n []).1 (rnT n []).2) := Lib.hid ⟨B1.out.trans (hb2.mono B1.out.size), t2⟩
  clear t2 hd2 hg2 hh2 hb2 B1
  go_wp2_with fail
  go_loopw [10] (fun i wr => ∃ k : Nat, k ≤ len ∧ i = .int .i64 k ∧ LSt w wr d g h n (rnT n (ts.take k)).1 (rnT n (ts.take k)).2) (fun i _ => len - (intOf i).toNat)
  case atStart => exact ⟨0, Nat.zero_le _, rfl, L2.out⟩
  case round =>
    clear L2
    obtain ⟨k, hk, rfl, HLS⟩ := hrel
    by_cases hlt : k < len
    · have hkl : k < ts.length := by rw [HTs.out]; exact hlt
      obtain ⟨t, ht⟩ : ∃ t, ts[k]? = some t := ⟨ts[k], by simp [hkl]⟩
      obtain ⟨ad, rfl, hadb, hcs⟩ := put_at HRd.out ht
      have HSn : Hid ((rnT n (ts.take (k + 1))).1 = putY n (rnT n (ts.take k)).1 t.b t.p ∧ (rnT n (ts.take (k + 1))).2 = putD n (rnT n (ts.take k)).1 (rnT n (ts.take k)).2 t.b t.p) := Lib.hid ⟨by rw [rnT_snoc ht]; rfl, by rw [rnT_snoc ht]; rfl⟩
      have HC : Hid (∀ W, LSt w W d g h n (rnT n (ts.take k)).1 (rnT n (ts.take k)).2 → W.cell? (ad.add (k * 3)) = some (.int .i64 t.b) ∧ W.cell? ⟨(ad.add (k * 3)).block, (ad.add (k * 3)).off + 1, none⟩ = some (.int .i64 t.p)) := Lib.hid fun W hW =>
        ⟨(hcs W (fun p hp => hW.1.cell hp)).1, (hcs W (fun p hp => hW.1.cell hp)).2.1⟩
      have hki : (k : Int) < (len : Int) := by omega
      clear hcs hkl ht hadb
      generalize (rnT n (ts.take k)).1 = Y at *
      generalize (rnT n (ts.take k)).2 = D at *
      have HL := Lib.hid HLS
      go_wp2_with fail
      refine wp_region_class_tail (fun w' => LSt w w' d g h n Y D) 11 (by kernel_rfl) (by kernel_rfl) HL.out.drew ?_
      intro X hX f hf hg
      have c0 := fun x => (HC.out _ (hf x)).1
      have c1 := fun x => (HC.out _ (hf x)).2
      have Hf := Lib.hid hf
      clear hf hg HLS
      simp only [List.take_succ_cons, List.take_zero, List.drop_succ_cons, List.drop_zero]
      repeat (go_big_quiet_step (fail))
      refine wpQuiet_nil ?_
      rintro _ ⟨x, rfl⟩
      have L := Hf.out x
      clear c0 c1 Hf
      generalize f x = W2 at L ⊢
      clear hX
      have HL2 := Lib.hid L
      clear L
      go_wp2_with fail
      refine (tset_any W2 t.b t.p HL2.out.2).mono ?_
      rintro e w4 ⟨rfl, t4, f4⟩
      have HL4 := Lib.hid (HL2.out.put t4 f4 G2.out.2.1 G2.out.2.2)
      clear t4 f4
      go_wp2
      go_roundw
      case rel => exact ⟨k + 1, by omega, by go_num, by rw [HSn.out.1, HSn.out.2]; exact HL4.out⟩
      case measure => simp [intOf]; omega
    · obtain rfl : len = k := by omega
      rw [List.take_of_length_le (by rw [HTs.out]; exact Nat.le_refl _)] at HLS
      have HL := Lib.hid HLS
      have HTZ := Lib.hid (rnT_tz n ts)
      clear HLS
      generalize (rnT n ts).1 = Y at *
      generalize (rnT n ts).2 = D at *
      have HP1 := Lib.hid (tplaces_any wr HL.out.2)
      go_wp2_with fail
      refine HP1.out.mono ?_
      rintro e w3 ⟨b1, rfl, x3, hb3, hbl3⟩
      have L3 := Lib.hid (HL.out.on hbl3)
      have X3 := Lib.hid x3
      have N3 : Hid (g ≠ b1 ∧ h ≠ b1) := Lib.hid (by have := HL.out.2.lv.lt; have := HL.out.2.dt.lt; omega)
      clear x3 hb3 hbl3 HP1 HL
      have HS := Lib.hid (tset_any w3 b p L3.out.2)
      go_wp2_with fail
      refine HS.out.mono ?_
      rintro e w4 ⟨rfl, t4, f4⟩
      have L4 := Lib.hid (L3.out.put t4 f4 G2.out.2.1 G2.out.2.2)
      have X4 := Lib.hid (X3.out.fr f4 (fun hT => by have := N3.out; rcases hT with e | e <;> omega))
      have hYl : Hid (n ≤ Y.length) := Lib.hid (by rw [L3.out.2.hy]; exact pages_up n)
      clear t4 f4 L3 X3 HS
      have HP2 := Lib.hid (tplaces_any w4 L4.out.2)
      go_wp2_with fail
      refine HP2.out.mono ?_
      rintro e w5 ⟨b2, rfl, x5, hb5, hbl5⟩
      have L5 := Lib.hid (L4.out.on hbl5)
      have X5 := Lib.hid (X4.out.below hbl5 X4.out.lt)
      have Z5 := Lib.hid x5
      clear x5 hb5 hbl5 HP2 L4 X4
      go_wp2_with fail
      go_loopw [14] (fun i wr => ∃ k : Nat, k ≤ n ∧ i = .int .i64 k ∧ ∃ q, w5.drewN q = wr) (fun i _ => n - (intOf i).toNat)
      case atStart => exact ⟨0, Nat.zero_le _, rfl, 0, rfl⟩
      case round =>
        obtain ⟨k, hk2, rfl, q, rfl⟩ := hrel
        by_cases hkn : k < n
        · obtain ⟨hu1, hu2⟩ := undo_at (Y := Y) (b := b) (p := p) hkn hYl.out
          have hl1 : k < (Y.take n).length := by have := hYl.out; rw [List.length_take]; omega
          have hl2 : k < ((putY n Y b p).take n).length := by
            have := L5.out.2.hy
            have := pages_up n
            rw [List.length_take]
            omega
          have d1 := (X5.out.cell k).trans (is_get hl1)
          have d2 := (Z5.out.cell k).trans (is_get hl2)
          have hki : (k : Int) < (n : Int) := by omega
          clear hl1 hl2
          by_cases hkb : (k : Int) = b
          · obtain ⟨h3, h4⟩ := hu2 hkb
            rw [h3] at d2
            rw [h4] at d1
            have q1 : ((k : Int) != b) = false := by simpa using hkb
            have q2 : ((k : Int) == b) = true := by simpa using hkb
            have q3 : (p != p) = false := by simp
            have q4 : (getT n Y b != getT n Y b) = false := by simp
            clear hkb hu1 hu2 h3 h4
            generalize getT n Y b = old at *
            go_wp2
            go_quiet (fail)
            go_wp2
            go_roundw
            case rel => exact ⟨k + 1, by omega, by go_num, _, rfl⟩
            case measure => first | (simp [intOf]; done) | (simp [intOf]; omega)
          · rw [hu1 hkb] at d2
            have q1 : ((k : Int) != b) = true := by simpa using hkb
            have q2 : ((k : Int) == b) = false := by simpa using hkb
            have q3 : ((Y.take n).getD k 0 != (Y.take n).getD k 0) = false := by simp
            clear hkb hu1 hu2
            generalize (Y.take n).getD k 0 = x at *
            go_wp2
            go_quiet (fail)
            go_wp2
            go_roundw
            case rel => exact ⟨k + 1, by omega, by go_num, _, rfl⟩
            case measure => first | (simp [intOf]; done) | (simp [intOf]; omega)
        · obtain rfl : k = n := by omega
          have L6 := Lib.hid (L5.out.drewN q)
          have X6 : Hid (Box (w5.drewN q) b1 3 (is (Y.take k))) := Lib.hid X5.out
          clear X5 L5 Z5
          generalize w5.drewN q = w6 at *
          have HS := Lib.hid (tset_any w6 b (getT k Y b) L6.out.2)
          rw [undo_back] at HS
          go_wp2_with fail
          refine HS.out.mono ?_
          rintro e w7 ⟨rfl, t7, f7⟩
          have L7 := Lib.hid (L6.out.put t7 f7 G2.out.2.1 G2.out.2.2)
          have X7 := Lib.hid (X6.out.fr f7 (fun hT => by have := N3.out; rcases hT with e | e <;> omega))
          clear t7 f7 L6 X6 HS
          have HP3 := Lib.hid (tplaces_any w7 L7.out.2)
          go_wp2_with fail
          refine HP3.out.mono ?_
          rintro e w8 ⟨b3, rfl, x8, hb8, hbl8⟩
          have L8 := Lib.hid (L7.out.on hbl8)
          have X8 := Lib.hid (X7.out.below hbl8 X7.out.lt)
          have Z8 := Lib.hid x8
          have hyl : (Y.take k).length = k := by have := hYl.out; rw [List.length_take]; omega
          clear x8 hb8 hbl8 HP3 L7 X7
          go_wp2_with fail
          refine (isame_any (some ⟨b3, 0, none⟩) (some ⟨b1, 0, none⟩) k k k k w8 (by unfold maxLen; omega) (by unfold maxLen; omega) (Y.take k) (Y.take k) hyl hyl w8.heap.size (Z8.out.rd Z8.out.lt) (X8.out.rd X8.out.lt)).mono ?_
          rintro e w9 ⟨rfl, q9, rfl⟩
          have L9 := Lib.hid (L8.out.drewN q9)
          go_wp2
          go_ret
          exact ⟨ret_bool (by simp), L9.out.1⟩
end Go.Proofs.Ytcligeajgbibnaa

/-
  Layer 9: the law TableKeeps.
-/
import Derived.Test.YtcligeajgbibnaaTbQ
namespace Go.Proofs.Ytcligeajgbibnaa
open Go.RowKit Leaf Tbl
set_option linter.unusedVariables false

theorem LSt.off {w w1 : World} {d g h n b o : Nat} {Y : List Int} {D : List Bool} {v : Value} (l : LSt w w1 d g h n Y D) (h1 : d ≠ b) (h2 : g ≠ b) (h3 : h ≠ b) (hb : w.heap.size ≤ b) : LSt w (w1.setCell ⟨b, o, none⟩ v) d g h n Y D :=
  ⟨l.1.setCell hb _, ⟨l.2.tb.same (Below.heap_setCell _ _ _ _ h1), l.2.lv.same (Below.heap_setCell _ _ _ _ h2), l.2.dt.same (Below.heap_setCell _ _ _ _ h3), l.2.hn, l.2.hy, l.2.hd⟩⟩
set_option maxRecDepth 100000 in
set_option maxHeartbeats 4000000 in
theorem tblaw_keeps (n : Nat) (A : Option Addr) (len cap : Nat) (ts : List Pt) (w : World) (hn : n ≤ 255) (hm : len ≤ maxLen) (hts : ts.length = len) (hr : Rd w w.heap.size A (pls ts)) :
    Calls Try.prog 6 #[.int .u8 n, .slice A len cap] w fun e w' => e = .returned (.bool true) ∧ Below w.heap.size w w' := by
  have HTs := Lib.hid hts
  have HRd := Lib.hid hr
  clear hts hr
  go_enter Try.func6, Try.ntmps6
  go_wp2_with fail
  refine (awake9_any w).mono ?_
  rintro e w1 ⟨rfl, hb1⟩
  have B1 := Lib.hid hb1
  clear hb1
  by_cases h100 : 100 < len
  · go_wp2_with fail
    refine (awake9_any w1).mono ?_
    rintro e w2 ⟨rfl, hb2⟩
    have B2 := Lib.hid (bthen B1.out hb2)
    clear hb2
    go_wp2
    go_ret
    exact ⟨rfl, B2.out⟩
  have hlen : len ≤ 100 := by omega
  go_wp2_with fail
  refine (tbnew_any n w1 (by omega)).mono ?_
  rintro e w2 ⟨d, g, h, rfl, t2, hd2, hg2, hh2, hb2⟩
  have G2 : Hid (w.heap.size ≤ d ∧ w.heap.size ≤ g ∧ w.heap.size ≤ h) := Lib.hid (by have := B1.out.size; omega)
  have L2 : Hid (LSt w w2 d g h n (rnT n []).1 (rnT n []).2) := Lib.hid ⟨B1.out.trans (hb2.mono B1.out.size), t2⟩
  clear t2 hd2 hg2 hh2 hb2 B1
  go_wp2_with fail
  go_loopw [6] (fun i wr => ∃ k : Nat, k ≤ len ∧ i = .int .i64 k ∧ LSt w wr d g h n (rnT n (ts.take k)).1 (rnT n (ts.take k)).2) (fun i _ => len - (intOf i).toNat)
  case atStart => exact ⟨0, Nat.zero_le _, rfl, L2.out⟩
  case round =>
    clear L2
    obtain ⟨k, hk, rfl, HLS⟩ := hrel
    by_cases hlt : k < len
    · have hkl : k < ts.length := by rw [HTs.out]; exact hlt
      obtain ⟨t, ht⟩ : ∃ t, ts[k]? = some t := ⟨ts[k], by simp [hkl]⟩
      obtain ⟨ad, rfl, hadb, hcs⟩ := put_at HRd.out ht
      have HSn : Hid ((rnT n (ts.take (k + 1))).1 = putY n (rnT n (ts.take k)).1 t.b t.p ∧ (rnT n (ts.take (k + 1))).2 = putD n (rnT n (ts.take k)).1 (rnT n (ts.take k)).2 t.b t.p) := Lib.hid ⟨by rw [rnT_snoc ht]; rfl, by rw [rnT_snoc ht]; rfl⟩
      have HC : Hid (∀ W, LSt w W d g h n (rnT n (ts.take k)).1 (rnT n (ts.take k)).2 → W.cell? (ad.add (k * 3)) = some (.int .i64 t.b) ∧ W.cell? ⟨(ad.add (k * 3)).block, (ad.add (k * 3)).off + 1, none⟩ = some (.int .i64 t.p)) := Lib.hid fun W hW =>
        ⟨(hcs W (fun p hp => hW.1.cell hp)).1, (hcs W (fun p hp => hW.1.cell hp)).2.1⟩
      have hki : (k : Int) < (len : Int) := by omega
      clear hcs hkl ht hadb
      generalize (rnT n (ts.take k)).1 = Y at *
      generalize (rnT n (ts.take k)).2 = D at *
      have HL := Lib.hid HLS
      go_wp2_with fail
      refine wp_region_class_tail (fun w' => LSt w w' d g h n Y D) 11 (by kernel_rfl) (by kernel_rfl) HL.out.drew ?_
      intro X hX f hf hg
      have c0 := fun x => (HC.out _ (hf x)).1
      have c1 := fun x => (HC.out _ (hf x)).2
      have Hf := Lib.hid hf
      clear hf hg HLS
      simp only [List.take_succ_cons, List.take_zero, List.drop_succ_cons, List.drop_zero]
      repeat (go_big_quiet_step (fail))
      refine wpQuiet_nil ?_
      rintro _ ⟨x, rfl⟩
      have L := Hf.out x
      clear c0 c1 Hf
      generalize f x = W2 at L ⊢
      clear hX
      have HL2 := Lib.hid L
      clear L
      go_wp2_with fail
      refine (tset_any W2 t.b t.p HL2.out.2).mono ?_
      rintro e w4 ⟨rfl, t4, f4⟩
      have HL4 := Lib.hid (HL2.out.put t4 f4 G2.out.2.1 G2.out.2.2)
      clear t4 f4
      go_wp2
      go_roundw
      case rel => exact ⟨k + 1, by omega, by go_num, by rw [HSn.out.1, HSn.out.2]; exact HL4.out⟩
      case measure => simp [intOf]; omega
    · obtain rfl : len = k := by omega
      rw [List.take_of_length_le (by rw [HTs.out]; exact Nat.le_refl _)] at HLS
      have HL := Lib.hid HLS
      have HTZ := Lib.hid (rnT_tz n ts)
      clear HLS
      generalize (rnT n ts).1 = Y at *
      generalize (rnT n ts).2 = D at *
      have HP1 := Lib.hid (tplaces_any wr HL.out.2)
      go_wp2_with fail
      refine HP1.out.mono ?_
      rintro e w3 ⟨b1, rfl, x3, hb3, hbl3⟩
      have L3 := Lib.hid (HL.out.on hbl3)
      have X3 := Lib.hid x3
      have hyl : Hid ((Y.take n).length = n) := Lib.hid (by have := HL.out.2.hy; have := pages_up n; rw [List.length_take]; omega)
      clear x3 hb3 hbl3 HP1 HL
      have HP2 := Lib.hid (tplaces_any w3 L3.out.2)
      go_wp2_with fail
      refine HP2.out.mono ?_
      rintro e w4 ⟨b2, rfl, x4, hb4, hbl4⟩
      have L4 := Lib.hid (L3.out.on hbl4)
      have X4 := Lib.hid (X3.out.below hbl4 X3.out.lt)
      have Z4 := Lib.hid x4
      have N4 : Hid ((d ≠ b2 ∧ g ≠ b2 ∧ h ≠ b2) ∧ b1 ≠ b2 ∧ w.heap.size ≤ b2) := Lib.hid (by
        have h1 := L3.out.2.tb.lt; have h2 := L3.out.2.lv.lt; have h3 := L3.out.2.dt.lt; have h4 := X3.out.lt; have h5 := L3.out.1.size
        omega)
      clear x4 hb4 hbl4 HP2 L3 X3
      go_wp2_with fail
      go_loopw [9] (fun i wr => ∃ k : Nat, k ≤ n ∧ i = .int .i64 k ∧ LSt w wr d g h n Y D ∧ Box wr b1 3 (is (Y.take n)) ∧ ∃ cs, Box wr b2 3 cs ∧ cs.length = n) (fun i _ => n - (intOf i).toNat)
      case atStart => exact ⟨0, Nat.zero_le _, rfl, L4.out, X4.out, _, Z4.out, by rw [is_length]; exact hyl.out⟩
      case round =>
        clear L4 X4 Z4
        obtain ⟨k, hk2, rfl, hL, hX, cs, hZ, hcs⟩ := hrel
        by_cases hkn : k < n
        · have hex : ∃ u, cs[k]? = some u := ⟨_, List.getElem?_eq_getElem (by omega)⟩
          obtain ⟨u, hu⟩ := hex
          have ck := (hZ.cell k).trans hu
          have fk := hZ.frozen k
          have HS : Hid (LSt w (wr.setCell ⟨b2, k, none⟩ (.int .i64 (-7))) d g h n Y D ∧ Box (wr.setCell ⟨b2, k, none⟩ (.int .i64 (-7))) b1 3 (is (Y.take n)) ∧ ∃ cs, Box (wr.setCell ⟨b2, k, none⟩ (.int .i64 (-7))) b2 3 cs ∧ cs.length = n) := Lib.hid
            ⟨hL.off N4.out.1.1 N4.out.1.2.1 N4.out.1.2.2 N4.out.2.2, hX.same (Below.heap_setCell _ _ _ _ N4.out.2.1), _, hZ.set k _, by rw [List.length_set]; exact hcs⟩
          have hki : (k : Int) < (n : Int) := by omega
          clear hL hX hZ hcs hu
          go_wp2
          go_roundw
          case rel => exact ⟨k + 1, by omega, by go_num, HS.out⟩
          case measure => simp [intOf]; omega
        · obtain rfl : k = n := by omega
          have L5 := Lib.hid hL
          have X5 := Lib.hid hX
          clear hL hX hZ hcs N4
          have HLv := Lib.hid (tleaves_any wr 1 L5.out.2)
          go_wp2_with fail
          refine HLv.out.mono ?_
          rintro e w6 ⟨b3, rfl, x6, hb6, hbl6⟩
          have L6 := Lib.hid (L5.out.on hbl6)
          have X6 := Lib.hid (X5.out.below hbl6 X5.out.lt)
          have Z6 := Lib.hid x6
          have HCl : Hid ((lfls (lfsOf Y 1 (pages k))).length = pages k * 12) := Lib.hid (by rw [lfls_length (lfsOf_in L5.out.2.hy), lfsOf_length])
          have N6 : Hid ((d ≠ b3 ∧ g ≠ b3 ∧ h ≠ b3) ∧ b1 ≠ b3 ∧ w.heap.size ≤ b3) := Lib.hid (by
            have h1 := L5.out.2.tb.lt; have h2 := L5.out.2.lv.lt; have h3 := L5.out.2.dt.lt; have h4 := X5.out.lt; have h5 := L5.out.1.size
            omega)
          have hpg := pages_le L5.out.2.hn
          clear x6 hb6 hbl6 HLv L5 X5
          generalize hP : pages k = P at *
          have HP := Lib.hid hP
          clear hP
          go_wp2_with fail
          go_loopw [11] (fun i wr => ∃ j : Nat, j ≤ P ∧ i = .int .i64 j ∧ LSt w wr d g h k Y D ∧ Box wr b1 3 (is (Y.take k)) ∧ ∃ cs, Box wr b3 50 cs ∧ cs.length = P * 12) (fun i _ => P - (intOf i).toNat)
          case atStart => exact ⟨0, Nat.zero_le _, rfl, L6.out, X6.out, _, Z6.out, HCl.out⟩
          case round =>
            clear L6 X6 Z6 HCl
            obtain ⟨j, hj, rfl, hL, hX, cs, hZ, hcs⟩ := hrel
            by_cases hjP : j < P
            · have hex : ∃ u, cs[j * 12 + 2]? = some u := ⟨_, List.getElem?_eq_getElem (by omega)⟩
              obtain ⟨u, hu⟩ := hex
              have ck := (hZ.cell (j * 12 + 2)).trans hu
              have fk := hZ.frozen (j * 12 + 2)
              have HS : Hid (LSt w (wr.setCell ⟨b3, j * 12 + 2, none⟩ (.int .i64 (-7))) d g h k Y D ∧ Box (wr.setCell ⟨b3, j * 12 + 2, none⟩ (.int .i64 (-7))) b1 3 (is (Y.take k)) ∧ ∃ cs, Box (wr.setCell ⟨b3, j * 12 + 2, none⟩ (.int .i64 (-7))) b3 50 cs ∧ cs.length = P * 12) := Lib.hid
                ⟨hL.off N6.out.1.1 N6.out.1.2.1 N6.out.1.2.2 N6.out.2.2, hX.same (Below.heap_setCell _ _ _ _ N6.out.2.1), _, hZ.set (j * 12 + 2) _, by rw [List.length_set]; exact hcs⟩
              have hki : (j : Int) < (P : Int) := by omega
              clear hL hX hZ hcs hu
              go_wp2
              go_roundw
              case rel => exact ⟨j + 1, by omega, by go_num, HS.out⟩
              case measure => simp [intOf]; omega
            · obtain rfl : j = P := by omega
              have L7 := Lib.hid hL
              have X7 := Lib.hid hX
              clear hL hX hZ hcs N6
              have HD1 := Lib.hid (tdirty_any wr L7.out.2)
              rw [HP.out] at HD1
              have hml := idxs_length D j
              generalize hI : idxs D j = I at *
              have HI := Lib.hid hI
              clear hI
              go_wp2_with fail
              refine HD1.out.mono ?_
              rintro e w8 ⟨V1, rfl, hown1, hb8⟩
              obtain ⟨A1, c1, rfl⟩ := own_slice hown1
              have L8 := Lib.hid (L7.out.on hb8)
              have X8 := Lib.hid (X7.out.below hb8 X7.out.lt)
              have O8 := Lib.hid hown1
              have O8' := Lib.hid hown1
              have S8 := Lib.hid (And.intro L7.out.2.tb.lt (And.intro L7.out.2.lv.lt (And.intro L7.out.2.dt.lt (And.intro X7.out.lt L7.out.1.size))))
              clear hown1 hb8 HD1 L7 X7
              have HD2 := Lib.hid (tdirty_any w8 L8.out.2)
              rw [HP.out, HI.out] at HD2
              go_wp2_with fail
              refine HD2.out.mono ?_
              rintro e w9 ⟨V2, rfl, hown2, hb9⟩
              obtain ⟨A2, c2, rfl⟩ := own_slice hown2
              have L9 := Lib.hid (L8.out.on hb9)
              have X9 := Lib.hid (X8.out.below hb9 X8.out.lt)
              have O9 := Lib.hid (own_below O8.out hb9)
              have R9 := Lib.hid hown2
              clear hown2 hb9 HD2 L8 X8
              generalize hm2 : I.length = m at *
              have HM2 := Lib.hid hm2
              clear hm2
              obtain ⟨wo, hwo⟩ : ∃ x, x = wr := ⟨wr, rfl⟩
              subst hwo
              go_wp2_with fail
              go_loopw [14] (fun i wr => ∃ q : Nat, q ≤ m ∧ i = .int .i64 q ∧ LSt w wr d g h k Y D ∧ Box wr b1 3 (is (Y.take k)) ∧ (∃ cs, wr.ownsRow wo.heap.size 3 1 (.slice A1 m c1) m cs) ∧ wr.ownsRow w8.heap.size 3 1 (.slice A2 m c2) m (is I)) (fun i _ => m - (intOf i).toNat)
              case atStart => exact ⟨0, Nat.zero_le _, rfl, L9.out, X9.out, ⟨_, O9.out⟩, R9.out⟩
              case round =>
                clear L9 X9 O9 R9 O8
                obtain ⟨q, hq, rfl, hL, hX, ⟨cs, hO⟩, hR⟩ := hrel
                by_cases hqm : q < m
                · obtain ⟨g4, rfl, hg4, hg4'⟩ := own_at hO (by omega)
                  have hcl : cs.length = m * 1 := hO.1
                  have hex : ∃ u, cs[q]? = some u := ⟨_, List.getElem?_eq_getElem (by omega)⟩
                  obtain ⟨u, hu⟩ := hex
                  have ck := (hO.cellAt q (by omega)).trans hu
                  have fk := hO.frozenAt q
                  obtain ⟨hst, hgr⟩ := hO.stored q (.int .i64 (-7))
                  have h8 : g4 < w8.heap.size := by
                    obtain ⟨g5, e, _, h5⟩ := own_at O8'.out (by omega)
                    have e2 : g4 = g5 := by injection e with e; injection e
                    omega
                  have hs8 := S8.out
                  have HS : Hid (LSt w (wr.setCell ⟨g4, q, none⟩ (.int .i64 (-7))) d g h k Y D ∧ Box (wr.setCell ⟨g4, q, none⟩ (.int .i64 (-7))) b1 3 (is (Y.take k)) ∧ (∃ cs, (wr.setCell ⟨g4, q, none⟩ (.int .i64 (-7))).ownsRow wo.heap.size 3 1 (.slice (some ⟨g4, 0, none⟩) m c1) m cs) ∧ (wr.setCell ⟨g4, q, none⟩ (.int .i64 (-7))).ownsRow w8.heap.size 3 1 (.slice A2 m c2) m (is I)) := Lib.hid
                    ⟨hL.off (b := g4) (by omega) (by omega) (by omega) (by omega), hX.same (Below.heap_setCell wr ⟨g4, q, none⟩ _ _ (by show b1 ≠ g4; omega)), ⟨_, hst⟩, own_store hR hgr h8⟩
                  have hki : (q : Int) < (m : Int) := by omega
                  clear hL hX hO hR hu hst hgr hcl h8 hs8 hg4 hg4'
                  go_wp2
                  go_roundw
                  case rel => exact ⟨q + 1, by omega, by go_num, HS.out⟩
                  case measure => simp [intOf]; omega
                · obtain rfl : q = m := by omega
                  have LA := Lib.hid hL
                  have XA := Lib.hid hX
                  have RA := Lib.hid hR
                  clear hL hX hO hR S8
                  have HP3 := Lib.hid (tplaces_any wr LA.out.2)
                  go_wp2_with fail
                  refine HP3.out.mono ?_
                  rintro e wa ⟨b4, rfl, xa, hba, hbla⟩
                  have LB := Lib.hid (LA.out.on hbla)
                  have XB := Lib.hid (XA.out.below hbla XA.out.lt)
                  have RB := Lib.hid (own_below RA.out hbla)
                  have ZB := Lib.hid xa
                  clear xa hba hbla HP3 LA XA RA
                  go_wp2_with fail
                  refine (isame_any (some ⟨b4, 0, none⟩) (some ⟨b1, 0, none⟩) k k k k wa (by unfold maxLen; omega) (by unfold maxLen; omega) (Y.take k) (Y.take k) hyl.out hyl.out wa.heap.size (ZB.out.rd ZB.out.lt) (XB.out.rd XB.out.lt)).mono ?_
                  rw [beq_self_eq_true]
                  rintro e wb ⟨rfl, qb, rfl⟩
                  have LC := Lib.hid (LB.out.drewN qb)
                  have RC := Lib.hid (own_drewN RB.out qb)
                  clear LB XB RB ZB
                  generalize wa.drewN qb = wc at *
                  have HD3 := Lib.hid (tdirty_any wc LC.out.2)
                  rw [HP.out, HI.out, HM2.out] at HD3
                  go_wp2_with fail
                  refine HD3.out.mono ?_
                  rintro e wd ⟨V3, rfl, hown3, hbd⟩
                  obtain ⟨A3, c3, rfl⟩ := own_slice hown3
                  have LD := Lib.hid (LC.out.on hbd)
                  have RD := Lib.hid (own_below RC.out hbd)
                  have OD := Lib.hid hown3
                  clear hown3 hbd HD3 LC RC
                  go_wp2_with fail
                  refine (isame_any A3 A2 q c3 q c2 wd (by unfold maxLen; omega) (by unfold maxLen; omega) I I HM2.out HM2.out wd.heap.size (Rd.own OD.out) (Rd.own RD.out)).mono ?_
                  rw [beq_self_eq_true]
                  rintro e we ⟨rfl, qe, rfl⟩
                  have LE := Lib.hid (LD.out.drewN qe)
                  go_wp2
                  go_ret
                  exact ⟨rfl, LE.out.1⟩
end Go.Proofs.Ytcligeajgbibnaa

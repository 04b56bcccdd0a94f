/-
  MsN
-/
import Derived.Test.YtgnpohkippegpaaGreatMg43
import Derived.Test.YtgnpohkippegpaaGreatMg30
import Derived.Test.YtgnpohkippegpaaGreatMg24
import Derived.Test.YtgnpohkippegpaaGreatMg04
/-
  The document's answers for layer 8: Read, ReadGeom.
-/
namespace Go.Proofs.YtgnpohkippegpaaGreat
open Go.RowKit Word Crc Mast
set_option linter.unusedVariables false

theorem rnum_small (p : List Int) (at_ : Nat) (w : World) (hl : p.length = 64) (hp : octets p) (hf : at_ + 4 ≤ 64) :
    Calls Tryz.prog 61 #[.agg (bs p).toArray, .int .i64 at_, .int .i64 4] w fun e w' => e = .returned (.int .i64 (get p at_ 4)) ∧ Below w.heap.size w w' := by
  have := rnum7_any p at_ 4 w hl hp (by omega) (by omega) hf
  rwa [hi_small at_ hp] at this

set_option maxRecDepth 100000 in
set_option maxHeartbeats 4000000 in
theorem rread8_any (p : List Int) (w : World) (hl : p.length = 64) (hp : octets p) :
    Calls Tryz.prog 35 #[.agg (bs p).toArray] w fun e w' => e = .returned (.tuple #[.agg (mcs (rreadS p).1).toArray, .int .i64 (rreadS p).2]) ∧ Below w.heap.size w w' := by
  obtain ⟨m, hm, hsz⟩ := big_size (P := Tryz.prog) (t := 43) (s := 64) (by kernel_rfl)
  obtain ⟨mr, hmr, hszr⟩ := big_size (P := Tryz.prog) (t := 34) (s := 6) (by kernel_rfl)
  have hm0 : ¬ m = 0 := by omega
  have hmr0 : ¬ mr = 0 := by omega
  have HP := Lib.hid (And.intro hl hp)
  have HM := Lib.hid (And.intro hm hmr)
  have HSu := Lib.hid fun w' => rsummed_any p w' hl hp
  have LP := Lib.hid fun (W : World) (L : TwoBx w W 43 (bs p) 34 (mcs m0)) => big_load0 Tryz.prog w.heap.size 0 (bs p) m (by rw [bs_length, HP.out.1, HM.out.1]) W L.1.range0
  have LR := Lib.hid fun (W : World) (b : Nat) (x : Mst) (h : Box W b 34 (mcs x)) => big_load0 Tryz.prog b 0 (mcs x) mr (by rw [mcs_length, HM.out.2]) W h.range0
  clear hm hmr hl hp
  go_enter Tryz.func35, Tryz.ntmps35
  go_wp2_with (first
    | ((with_reducible refine wpList_pg_box (o := ⟨some 1, .box _ _, _, _, _, _⟩) rfl _ rfl p rfl ?_); intro w1 x0 hB1 hs1)
    | ((with_reducible refine wpList_ms_alloc (o := ⟨some 2, .alloc _, _, _, _, _⟩) rfl rfl ?_); intro w2 x1 hB2 hs2; have L := TwoBx.start x0 hB1 hs1 x1 hB2 hs2; rw [hs1]; clear hs1 hs2 x0 x1 hB1 hB2; have hld := LP.out _ L)
    | fail)
  refine (HSu.out _).mono ?_
  rintro e w3 ⟨rfl, hb3⟩
  replace L := L.on hb3
  clear hb3 hld HSu
  cases hri : rightB p with
  | false =>
    have HS := Lib.hid (show rreadS p = (m0, 8) by unfold rreadS; rw [if_pos hri])
    have HX := Lib.hid L.2.1
    have HB := Lib.hid L.2.2
    clear hri L
    go_wp2_with (first
      | (with_reducible refine wpList_ms_zero (o := ⟨some 8, .build _ _, _, _, _, _⟩) rfl rfl ?_)
      | ((with_reducible refine wpList_ms_store (o := ⟨none, .store _ _ _, _, _, _, _⟩) rfl _ _ rfl (w.heap.size + 1) m0 m0 rfl rfl HX.out ?_); intro w9 hb9 hg9 _)
      | fail)
    have hldF := big_load0 Tryz.prog (w.heap.size + 1) 0 (mcs m0) mr (by rw [mcs_length, HM.out.2]) _ hb9.range0
    generalize hR : mcs m0 = R at hldF ⊢
    exact bodyPost_ret (v := .tuple #[.agg R.toArray, .int .i64 8]) (by simp [results, Tryz.results35, go_sem, hszr, hldF]) rfl ⟨by rw [HS.out, hR], below_stored HB.out.1 hg9 HB.out.1.size (by omega)⟩
  | true =>
    have HS' := Lib.hid (show rreadS p = if okB (rtaken p) = true ∧ layL (rtaken p) = p then (rtaken p, 0) else (m0, 7) by unfold rreadS; rw [if_neg (by rw [hri]; simp)])
    have HTI := Lib.hid (rtaken_in HP.out.2)
    have hv := get_bounds p 29 4 HP.out.2
    have hv0 := hv.1
    have hv1 : get p 29 4 < 4294967296 := by have := hv.2; omega
    clear hv
    have HT := Lib.hid (show rtaken p = ⟨p.getD 0 0 == 130, Rec.hi (get p 1 8), Rec.hi (get p 9 8), Rec.hi (get p 17 8), get p 25 4, get p 29 4⟩ from rfl)
    generalize hc0 : p.getD 0 0 = c0 at HT
    have HC0 := Lib.hid hc0
    clear hc0
    have G0 := Lib.hid fun w' => (rnum7_any p 1 8 w' HP.out.1 HP.out.2 (by omega) (by omega) (by omega) : Calls Tryz.prog 61 #[.agg (bs p).toArray, .int .i64 1, .int .i64 8] w' _)
    have G1 := Lib.hid fun w' => (rnum7_any p 9 8 w' HP.out.1 HP.out.2 (by omega) (by omega) (by omega) : Calls Tryz.prog 61 #[.agg (bs p).toArray, .int .i64 9, .int .i64 8] w' _)
    have G2 := Lib.hid fun w' => (rnum7_any p 17 8 w' HP.out.1 HP.out.2 (by omega) (by omega) (by omega) : Calls Tryz.prog 61 #[.agg (bs p).toArray, .int .i64 17, .int .i64 8] w' _)
    have G3 := Lib.hid fun w' => (rnum_small p 25 w' HP.out.1 HP.out.2 (by omega) : Calls Tryz.prog 61 #[.agg (bs p).toArray, .int .i64 25, .int .i64 4] w' _)
    have G4 := Lib.hid fun w' => (rnum_small p 29 w' HP.out.1 HP.out.2 (by omega) : Calls Tryz.prog 61 #[.agg (bs p).toArray, .int .i64 29, .int .i64 4] w' _)
    clear hri
    generalize Rec.hi (get p 1 8) = v1 at *
    generalize Rec.hi (get p 9 8) = v2 at *
    generalize Rec.hi (get p 17 8) = v3 at *
    generalize get p 25 4 = v4 at *
    generalize get p 29 4 = v5 at *
    generalize rtaken p = tk at *
    go_wp2_with fail
    have hSd : TwoBx w w3.drew 43 (bs p) 34 (mcs m0) := L.drew
    refine wp_region_alloc (fun w' => TwoBx w w' 43 (bs p) 34 (mcs m0)) 15 34 (mcs m0) 4 ?ot1 ?hot1 ?hop1 ?hog1 ?hod1 ?hz1 ?hm1 ?hB1 ?hSB1 ?hS1 ?h1
    case hot1 => exact rfl
    case hop1 => exact rfl
    case hog1 => exact rfl
    case hod1 => exact rfl
    case hz1 => exact zero_mast
    case hm1 => kernel_rfl
    case hB1 => kernel_rfl
    case hSB1 => exact fun _ _ h hb => h.on hb
    case hS1 => exact L.drew
    clear L
    simp only [List.take_succ_cons, List.take_zero, List.drop_succ_cons, List.drop_zero]
    try simp only [Act.put]
    refine wpR_take 4 ?hp10 w3.drew ?hw10 ?h10
    case hp10 => kernel_rfl
    case hw10 => exact hSd
    simp only [List.take_succ_cons, List.take_zero, List.drop_succ_cons, List.drop_zero]
    intro X hX f hf
    have cl := fun x => LP.out _ (hf x)
    have ci := fun x => ((hf x).1.cell 0).trans (bs_get (show 0 < p.length by rw [HP.out.1]; omega))
    simp only [HC0.out] at ci
    clear hf
    repeat (go_big_quiet_step (fail))
    refine wpQuiet_nil ?_
    clear cl ci hX
    clear f
    refine wpR_call ?hgd11 61 ?xs11 ?ts11 ?ho11 #[.agg (bs p).toArray, .int .i64 1, .int .i64 8] ?hx11 ?hE11 (.int .i64 v1) ?hc11 ?h11
    case hgd11 => exact rfl
    case ho11 => exact rfl
    case hx11 => simp [Act.eval]
    case hE11 => exact fun w => enters_in Tryz.func61 (by kernel_rfl) rfl _ w
    case hc11 => exact fun w _ => G0.out w
    simp only [Act.put, List.setIfInBounds_toArray, List.set_cons_succ, List.set_cons_zero]
    refine wpR_take 1 ?hp12 w3.drew ?hw12 ?h12
    case hp12 => kernel_rfl
    case hw12 => exact hSd
    simp only [List.take_succ_cons, List.take_zero, List.drop_succ_cons, List.drop_zero]
    intro X hX f hf
    have cl := fun x => LP.out _ (hf x)
    clear hf
    repeat (go_big_quiet_step (fail))
    refine wpQuiet_nil ?_
    clear cl hX
    clear f
    refine wpR_call ?hgd13 61 ?xs13 ?ts13 ?ho13 #[.agg (bs p).toArray, .int .i64 9, .int .i64 8] ?hx13 ?hE13 (.int .i64 v2) ?hc13 ?h13
    case hgd13 => exact rfl
    case ho13 => exact rfl
    case hx13 => simp [Act.eval]
    case hE13 => exact fun w => enters_in Tryz.func61 (by kernel_rfl) rfl _ w
    case hc13 => exact fun w _ => G1.out w
    simp only [Act.put, List.setIfInBounds_toArray, List.set_cons_succ, List.set_cons_zero]
    refine wpR_take 1 ?hp14 w3.drew ?hw14 ?h14
    case hp14 => kernel_rfl
    case hw14 => exact hSd
    simp only [List.take_succ_cons, List.take_zero, List.drop_succ_cons, List.drop_zero]
    intro X hX f hf
    have cl := fun x => LP.out _ (hf x)
    clear hf
    repeat (go_big_quiet_step (fail))
    refine wpQuiet_nil ?_
    clear cl hX
    clear f
    refine wpR_call ?hgd15 61 ?xs15 ?ts15 ?ho15 #[.agg (bs p).toArray, .int .i64 17, .int .i64 8] ?hx15 ?hE15 (.int .i64 v3) ?hc15 ?h15
    case hgd15 => exact rfl
    case ho15 => exact rfl
    case hx15 => simp [Act.eval]
    case hE15 => exact fun w => enters_in Tryz.func61 (by kernel_rfl) rfl _ w
    case hc15 => exact fun w _ => G2.out w
    simp only [Act.put, List.setIfInBounds_toArray, List.set_cons_succ, List.set_cons_zero]
    refine wpR_take 1 ?hp16 w3.drew ?hw16 ?h16
    case hp16 => kernel_rfl
    case hw16 => exact hSd
    simp only [List.take_succ_cons, List.take_zero, List.drop_succ_cons, List.drop_zero]
    intro X hX f hf
    have cl := fun x => LP.out _ (hf x)
    clear hf
    repeat (go_big_quiet_step (fail))
    refine wpQuiet_nil ?_
    clear cl hX
    clear f
    refine wpR_call ?hgd17 61 ?xs17 ?ts17 ?ho17 #[.agg (bs p).toArray, .int .i64 25, .int .i64 4] ?hx17 ?hE17 (.int .i64 v4) ?hc17 ?h17
    case hgd17 => exact rfl
    case ho17 => exact rfl
    case hx17 => simp [Act.eval]
    case hE17 => exact fun w => enters_in Tryz.func61 (by kernel_rfl) rfl _ w
    case hc17 => exact fun w _ => G3.out w
    simp only [Act.put, List.setIfInBounds_toArray, List.set_cons_succ, List.set_cons_zero]
    refine wpR_take 1 ?hp18 w3.drew ?hw18 ?h18
    case hp18 => kernel_rfl
    case hw18 => exact hSd
    simp only [List.take_succ_cons, List.take_zero, List.drop_succ_cons, List.drop_zero]
    intro X hX f hf
    have cl := fun x => LP.out _ (hf x)
    clear hf
    repeat (go_big_quiet_step (fail))
    refine wpQuiet_nil ?_
    clear cl hX
    clear f
    refine wpR_call ?hgd19 61 ?xs19 ?ts19 ?ho19 #[.agg (bs p).toArray, .int .i64 29, .int .i64 4] ?hx19 ?hE19 (.int .i64 v5) ?hc19 ?h19
    case hgd19 => exact rfl
    case ho19 => exact rfl
    case hx19 => simp [Act.eval]
    case hE19 => exact fun w => enters_in Tryz.func61 (by kernel_rfl) rfl _ w
    case hc19 => exact fun w _ => G4.out w
    simp only [Act.put, List.setIfInBounds_toArray, List.set_cons_succ, List.set_cons_zero]
    refine wpR_take 1 ?hp20 w3.drew ?hw20 ?h20
    case hp20 => kernel_rfl
    case hw20 => exact hSd
    simp only [List.take_succ_cons, List.take_zero, List.drop_succ_cons, List.drop_zero]
    intro X hX f hf
    have cl := fun x => LP.out _ (hf x)
    clear hf
    repeat (go_big_quiet_step (fail))
    refine wpQuiet_nil ?_
    clear cl hX
    clear f
    refine wpR_val ?hgdb (.agg (mcs ⟨c0 == 130, v1, v2, v3, v4, v5⟩).toArray) ?heb ?hb
    case hgdb => exact rfl
    case heb =>
      intro w'
      have e := run_build_mast w' ⟨c0 == 130, v1, v2, v3, v4, v5⟩
      simp only [execOp, List.map_toArray, List.map_cons, List.map_nil, Act.eval]
      simp [e]
    rintro b w' ⟨w0, hw0, rfl⟩ hw' hb'
    have hb2 := hw0.2.2.2
    clear hw0
    generalize w0.heap.size = b at hb' hb2 ⊢
    have HW := Lib.hid hw'
    simp only [Act.put, List.setIfInBounds_toArray, List.set_cons_succ, List.set_cons_zero]
    clear G0 G1 G2 G3 G4 hSd hw'
    go_wp2_with (first
      | ((with_reducible refine wpList_ms_store (o := ⟨none, .store _ _ _, _, _, _, _⟩) rfl _ _ rfl b ⟨c0 == 130, v1, v2, v3, v4, v5⟩ m0 rfl rfl hb' ?_); intro w6 x6 hg6 _)
      | fail)
    have L : ThreeBx w w6 43 (bs p) 34 (mcs m0) b 34 (mcs tk) := ⟨⟨HW.out.1.grown hg6 (by omega), HW.out.2.1.grown hg6 (by omega), below_stored HW.out.2.2.1 hg6 HW.out.2.2.1.size (by omega), Nat.le_trans HW.out.2.2.2 hg6.size⟩, by rw [HT.out]; exact x6, hb2⟩
    clear hb' x6 hg6 HW HT hb2
    have LP := Lib.hid fun (W : World) (L : ThreeBx w W 43 (bs p) 34 (mcs m0) b 34 (mcs tk)) => big_load0 Tryz.prog w.heap.size 0 (bs p) m (by rw [bs_length, HP.out.1, HM.out.1]) W L.1.1.range0
    have HQ := Lib.hid fun w' => rright8_any tk w'
    cases hok : okB tk with
    | false =>
      rw [hok] at HQ
      have HS := Lib.hid (show rreadS p = (m0, 7) by rw [HS'.out, hok]; rfl)
      clear HS' hok
      refine wp_region_class (fun w' => ThreeBx w w' 43 (bs p) 34 (mcs m0) b 34 (mcs tk)) (by kernel_rfl) (by kernel_rfl) L.drew ?_
      intro X hX f hf hg
      have cl := fun x => LP.out _ (hf x)
      have cr := fun x => LR.out _ _ tk (hf x).2.1
      have Hf := Lib.hid hf
      have Hg := Lib.hid hg
      clear hf hg L
      simp only [Act.put]
      repeat (go_big_quiet_step (first
        | (go_at_call 62; with_reducible exact calls_class (HQ.out _) (fun _ hb => Hg.out _ ((Hf.out _).on hb)))))
      refine wpQuiet_nil ?_
      rintro _ ⟨x, rfl⟩
      have HX := Lib.hid (Hf.out x).1.2.1
      have HB := Lib.hid (Hf.out x).1.2.2
      have HT := Lib.hid (Hf.out x)
      clear cl cr Hf Hg 
      generalize f x = wx at HX HB HT ⊢
      go_wp2_with (first
        | (with_reducible refine wpList_ms_zero (o := ⟨some 33, .build _ _, _, _, _, _⟩) rfl rfl ?_)
        | ((with_reducible refine wpList_ms_store (o := ⟨none, .store _ _ _, _, _, _, _⟩) rfl _ _ rfl (w.heap.size + 1) m0 m0 rfl rfl HX.out ?_); intro w9 hb9 hg9 _)
        | fail)
      have hldF := big_load0 Tryz.prog (w.heap.size + 1) 0 (mcs m0) mr (by rw [mcs_length, HM.out.2]) _ hb9.range0
      generalize hR : mcs m0 = R at hldF ⊢
      exact bodyPost_ret (v := .tuple #[.agg R.toArray, .int .i64 7]) (by simp [results, Tryz.results35, go_sem, hszr, hldF]) rfl ⟨by rw [HS.out, hR], below_stored HB.out.1 hg9 HB.out.1.size (by omega)⟩
    | true =>
      rw [hok] at HQ
      have HLay := Lib.hid fun w' => rlay8_any tk w' (of_decide_eq_true hok) HTI.out
      have hq := fun w' => pg_equal w' (layL tk) p (layL_length tk) HP.out.1
      have hgd := pg_guard
      cases heq : (layL tk == p) with
      | false =>
        have HS := Lib.hid (show rreadS p = (m0, 7) by rw [HS'.out, if_neg]; rintro ⟨_, h⟩; rw [h] at heq; simp at heq)
        rw [heq] at hq
        clear HS' hok heq
        generalize bs (layL tk) = Y at hq HLay
        refine wp_region_class (fun w' => ThreeBx w w' 43 (bs p) 34 (mcs m0) b 34 (mcs tk)) (by kernel_rfl) (by kernel_rfl) L.drew ?_
        intro X hX f hf hg
        have cl := fun x => LP.out _ (hf x)
        have cr := fun x => LR.out _ _ tk (hf x).2.1
        have Hf := Lib.hid hf
        have Hg := Lib.hid hg
        clear hf hg L
        simp only [Act.put]
        repeat (go_big_quiet_step (first
          | (go_at_call 62; with_reducible exact calls_class (HQ.out _) (fun _ hb => Hg.out _ ((Hf.out _).on hb)))
          | (go_at_call 63; with_reducible exact calls_class (HLay.out _) (fun _ hb => Hg.out _ ((Hf.out _).on hb)))))
        refine wpQuiet_nil ?_
        rintro _ ⟨x, rfl⟩
        have HX := Lib.hid (Hf.out x).1.2.1
        have HB := Lib.hid (Hf.out x).1.2.2
        have HT := Lib.hid (Hf.out x)
        clear cl cr Hf Hg 
        generalize f x = wx at HX HB HT ⊢
        go_wp2_with (first
          | (with_reducible refine wpList_ms_zero (o := ⟨some 33, .build _ _, _, _, _, _⟩) rfl rfl ?_)
          | ((with_reducible refine wpList_ms_store (o := ⟨none, .store _ _ _, _, _, _, _⟩) rfl _ _ rfl (w.heap.size + 1) m0 m0 rfl rfl HX.out ?_); intro w9 hb9 hg9 _)
          | fail)
        have hldF := big_load0 Tryz.prog (w.heap.size + 1) 0 (mcs m0) mr (by rw [mcs_length, HM.out.2]) _ hb9.range0
        generalize hR : mcs m0 = R at hldF ⊢
        exact bodyPost_ret (v := .tuple #[.agg R.toArray, .int .i64 7]) (by simp [results, Tryz.results35, go_sem, hszr, hldF]) rfl ⟨by rw [HS.out, hR], below_stored HB.out.1 hg9 HB.out.1.size (by omega)⟩
      | true =>
        have HS := Lib.hid (show rreadS p = (tk, 0) by rw [HS'.out, if_pos ⟨hok, eq_of_beq heq⟩])
        rw [heq] at hq
        clear HS' hok heq
        generalize bs (layL tk) = Y at hq HLay
        refine wp_region_class (fun w' => ThreeBx w w' 43 (bs p) 34 (mcs m0) b 34 (mcs tk)) (by kernel_rfl) (by kernel_rfl) L.drew ?_
        intro X hX f hf hg
        have cl := fun x => LP.out _ (hf x)
        have cr := fun x => LR.out _ _ tk (hf x).2.1
        have Hf := Lib.hid hf
        have Hg := Lib.hid hg
        clear hf hg L
        simp only [Act.put]
        repeat (go_big_quiet_step (first
          | (go_at_call 62; with_reducible exact calls_class (HQ.out _) (fun _ hb => Hg.out _ ((Hf.out _).on hb)))
          | (go_at_call 63; with_reducible exact calls_class (HLay.out _) (fun _ hb => Hg.out _ ((Hf.out _).on hb)))))
        refine wpQuiet_nil ?_
        rintro _ ⟨x, rfl⟩
        have HX := Lib.hid (Hf.out x).1.2.1
        have HB := Lib.hid (Hf.out x).1.2.2
        have HT := Lib.hid (Hf.out x)
        clear cl cr Hf Hg 
        generalize f x = wx at HX HB HT ⊢
        have cr := LR.out _ _ tk HT.out.2.1
        go_wp2_with (first
          | ((with_reducible refine wpList_ms_store (o := ⟨none, .store _ _ _, _, _, _, _⟩) rfl _ _ rfl (w.heap.size + 1) tk m0 rfl rfl HX.out ?_); intro w9 hb9 hg9 _)
          | fail)
        have hldF := big_load0 Tryz.prog (w.heap.size + 1) 0 (mcs tk) mr (by rw [mcs_length, HM.out.2]) _ hb9.range0
        generalize hR : mcs tk = R at hldF ⊢
        exact bodyPost_ret (v := .tuple #[.agg R.toArray, .int .i64 0]) (by simp [results, Tryz.results35, go_sem, hszr, hldF]) rfl ⟨by rw [HS.out, hR], below_stored HB.out.1 hg9 HB.out.1.size (by omega)⟩

end Go.Proofs.YtgnpohkippegpaaGreat

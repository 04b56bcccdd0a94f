/-
  Package mast: taken, takenGeom, Read, ReadGeom.
-/
import Derived.Test.YtoehflalpidhfaaMsD
import Derived.Test.YtoehflalpidhfaaTail
import Derived.Test.YtoehflalpidhfaaAlloc
namespace Go.Proofs.Ytoehflalpidhfaa
open Go.RowKit Word Crc Mast
set_option linter.unusedVariables false

theorem TwoBx.draws {w W : World} {T U : TypeId} {cs ds : List Value} (h : TwoBx w W T cs U ds) (q : Nat) : TwoBx w (W.drewN q) T cs U ds := ⟨h.1, h.2.1, below_draws h.2.2.1 q, h.2.2.2⟩
theorem mget_small (at_ : Nat) (zs : List Int) (w : World) (hf : at_ + 4 ≤ 64) (hl : zs.length = 64) (hb : octets zs) :
    Calls Try.prog 53 #[.agg (bs zs).toArray, .int .i64 at_, .int .i64 4] w fun e w' => e = .returned (.int .i64 (get zs at_ 4)) ∧ Below w.heap.size w w' := by
  have := mget_any at_ 4 zs w (by omega) (by omega) (by omega) hl hb
  rwa [i64_small at_ hb] at this

set_option maxRecDepth 100000 in
set_option maxHeartbeats 4000000 in
theorem mstaken_any (p : List Int) (w : World) (hl : p.length = 64) (hp : octets p) :
    Calls Try.prog 34 #[.agg (bs p).toArray] w fun e w' => e = .returned (.agg (mcs (taken p)).toArray) ∧ Below w.heap.size w w' := by
  obtain ⟨m6, hm, hsz⟩ := big_size (P := Try.prog) (t := 28) (s := 64) (by kernel_rfl)
  obtain ⟨mr, hmr, hszr⟩ := big_size (P := Try.prog) (t := 24) (s := 6) (by kernel_rfl)
  have hm0 : ¬ m6 = 0 := by omega
  have hmr0 : ¬ mr = 0 := by omega
  have HP := Lib.hid (And.intro hl hp)
  have HM := Lib.hid (And.intro hm hmr)
  have LP := Lib.hid fun (W : World) (L : TwoBx w W 28 (bs p) 24 (mcs m0)) => big_load0 Try.prog w.heap.size 0 (bs p) m6 (by rw [bs_length, HP.out.1, HM.out.1]) W L.1.range0
  have G0 := Lib.hid fun w' => (mget_any 1 8 p w' (by omega) (by omega) (by omega) hl hp : Calls Try.prog 53 #[.agg (bs p).toArray, .int .i64 1, .int .i64 8] w' _)
  have G1 := Lib.hid fun w' => (mget_any 9 8 p w' (by omega) (by omega) (by omega) hl hp : Calls Try.prog 53 #[.agg (bs p).toArray, .int .i64 9, .int .i64 8] w' _)
  have G2 := Lib.hid fun w' => (mget_any 17 8 p w' (by omega) (by omega) (by omega) hl hp : Calls Try.prog 53 #[.agg (bs p).toArray, .int .i64 17, .int .i64 8] w' _)
  have G3 := Lib.hid fun w' => (mget_small 25 p w' (by omega) hl hp : Calls Try.prog 53 #[.agg (bs p).toArray, .int .i64 25, .int .i64 4] w' _)
  have G4 := Lib.hid fun w' => (mget_small 29 p w' (by omega) hl hp : Calls Try.prog 53 #[.agg (bs p).toArray, .int .i64 29, .int .i64 4] w' _)
  have HT := Lib.hid (show taken p = ⟨p.getD 0 0 == 130, Rec.i64 (get p 1 8), Rec.i64 (get p 9 8), Rec.i64 (get p 17 8), get p 25 4, get p 29 4⟩ from rfl)
  have hv := get_bounds p 29 4 hp
  have hv0 := hv.1
  have hv1 : get p 29 4 < 4294967296 := by have := hv.2; omega
  clear hv
  clear hm hmr hl hp
  generalize Rec.i64 (get p 1 8) = v1 at *
  generalize Rec.i64 (get p 9 8) = v2 at *
  generalize Rec.i64 (get p 17 8) = v3 at *
  generalize get p 25 4 = v4 at *
  generalize get p 29 4 = v5 at *
  go_enter Try.func34, Try.ntmps34
  go_wp2_with (first
    | ((with_reducible refine wpList_pg_box (o := ⟨some 1, .box _ _, _, _, _, _⟩) rfl _ rfl p rfl ?_); intro w1 x0 hB1 hs1)
    | ((with_reducible refine wpList_ms_alloc (o := ⟨some 2, .alloc _, _, _, _, _⟩) rfl rfl ?_); intro w2 x1 hB2 hs2; have L := TwoBx.start x0 hB1 hs1 x1 hB2 hs2; rw [hs1]; clear hs1 hs2 x0 x1 hB1 hB2)
    | fail)
  refine wp_region_class_tail (fun w' => TwoBx w w' 28 (bs p) 24 (mcs m0)) 14 (by kernel_rfl) (by kernel_rfl) L.drew ?_
  intro X hX f hf hg
  have cl := fun x => LP.out _ (hf x)
  have ci := fun x => ((hf x).1.cell 0).trans (bs_get (show 0 < p.length by rw [HP.out.1]; omega))
  have Hf := Lib.hid hf
  have Hg := Lib.hid hg
  clear hf hg L
  simp only [List.take_succ_cons, List.take_zero, List.drop_succ_cons, List.drop_zero, Act.put, List.setIfInBounds_toArray, List.set_cons_succ, List.set_cons_zero]
  repeat (go_big_quiet_step ((go_at_call 53; (first | with_reducible exact calls_class (G0.out _) (fun _ hb => Hg.out _ ((Hf.out _).on hb)) | with_reducible exact calls_class (G1.out _) (fun _ hb => Hg.out _ ((Hf.out _).on hb)) | with_reducible exact calls_class (G2.out _) (fun _ hb => Hg.out _ ((Hf.out _).on hb)) | with_reducible exact calls_class (G3.out _) (fun _ hb => Hg.out _ ((Hf.out _).on hb)) | with_reducible exact calls_class (G4.out _) (fun _ hb => Hg.out _ ((Hf.out _).on hb))))))
  refine wpQuiet_nil ?_
  rintro _ ⟨x, rfl⟩
  have L := Hf.out x
  clear cl Hf Hg
  generalize f x = W2 at L ⊢
  clear hX
  have HX := Lib.hid L.2.1
  have HB := Lib.hid L.2.2
  clear L
  go_wp2_with (first
    | (with_reducible refine wpList_build_known (o := ⟨some 17, .build _ _, _, _, _, _⟩) rfl _ _ _ rfl rfl _ (fun w => run_build_mast w ⟨p.getD 0 0 == 130, v1, v2, v3, v4, v5⟩) ?_)
    | ((with_reducible refine wpList_ms_store (o := ⟨none, .store _ _ _, _, _, _, _⟩) rfl _ _ rfl (w.heap.size + 1) ⟨p.getD 0 0 == 130, v1, v2, v3, v4, v5⟩ m0 rfl rfl HX.out ?_); intro w9 hb9 hg9 _)
    | fail)
  rw [← HT.out] at hb9
  have hldF := big_load0 Try.prog (w.heap.size + 1) 0 (mcs (taken p)) mr (by rw [mcs_length, HM.out.2]) _ hb9.range0
  generalize hR : mcs (taken p) = R at hldF ⊢
  exact bodyPost_ret (v := .agg R.toArray) (by simp [results, Try.results34, go_sem, hszr, hldF]) rfl ⟨rfl, below_stored HB.out.1 hg9 HB.out.1.size (by omega)⟩

set_option maxRecDepth 100000 in
set_option maxHeartbeats 4000000 in
theorem getaken_any (p : List Int) (w : World) (hl : p.length = 64) (hp : octets p) :
    Calls Try.prog 38 #[.agg (bs p).toArray] w fun e w' => e = .returned (.agg (gcs (gtaken p)).toArray) ∧ Below w.heap.size w w' := by
  obtain ⟨m6, hm, hsz⟩ := big_size (P := Try.prog) (t := 28) (s := 64) (by kernel_rfl)
  obtain ⟨mr, hmr, hszr⟩ := big_size (P := Try.prog) (t := 38) (s := 5) (by kernel_rfl)
  have hm0 : ¬ m6 = 0 := by omega
  have hmr0 : ¬ mr = 0 := by omega
  have HP := Lib.hid (And.intro hl hp)
  have HM := Lib.hid (And.intro hm hmr)
  have LP := Lib.hid fun (W : World) (L : TwoBx w W 28 (bs p) 38 (gcs g0)) => big_load0 Try.prog w.heap.size 0 (bs p) m6 (by rw [bs_length, HP.out.1, HM.out.1]) W L.1.range0
  have G0 := Lib.hid fun w' => (mget_small 1 p w' (by omega) hl hp : Calls Try.prog 53 #[.agg (bs p).toArray, .int .i64 1, .int .i64 4] w' _)
  have G1 := Lib.hid fun w' => (mget_small 5 p w' (by omega) hl hp : Calls Try.prog 53 #[.agg (bs p).toArray, .int .i64 5, .int .i64 4] w' _)
  have G2 := Lib.hid fun w' => (mget_small 9 p w' (by omega) hl hp : Calls Try.prog 53 #[.agg (bs p).toArray, .int .i64 9, .int .i64 4] w' _)
  have G3 := Lib.hid fun w' => (mget_small 13 p w' (by omega) hl hp : Calls Try.prog 53 #[.agg (bs p).toArray, .int .i64 13, .int .i64 4] w' _)
  have G4 := Lib.hid fun w' => (mget_small 17 p w' (by omega) hl hp : Calls Try.prog 53 #[.agg (bs p).toArray, .int .i64 17, .int .i64 4] w' _)
  have HT := Lib.hid (show gtaken p = ⟨get p 1 4, get p 5 4, get p 9 4, get p 13 4, get p 17 4⟩ from rfl)
  clear hm hmr hl hp
  generalize get p 1 4 = v1 at *
  generalize get p 5 4 = v2 at *
  generalize get p 9 4 = v3 at *
  generalize get p 13 4 = v4 at *
  generalize get p 17 4 = v5 at *
  go_enter Try.func38, Try.ntmps38
  go_wp2_with (first
    | ((with_reducible refine wpList_pg_box (o := ⟨some 1, .box _ _, _, _, _, _⟩) rfl _ rfl p rfl ?_); intro w1 x0 hB1 hs1)
    | ((with_reducible refine wpList_ge_alloc (o := ⟨some 2, .alloc _, _, _, _, _⟩) rfl rfl ?_); intro w2 x1 hB2 hs2; have L := TwoBx.start x0 hB1 hs1 x1 hB2 hs2; rw [hs1]; clear hs1 hs2 x0 x1 hB1 hB2)
    | fail)
  refine wp_region_class_tail (fun w' => TwoBx w w' 28 (bs p) 38 (gcs g0)) 10 (by kernel_rfl) (by kernel_rfl) L.drew ?_
  intro X hX f hf hg
  have cl := fun x => LP.out _ (hf x)
  have Hf := Lib.hid hf
  have Hg := Lib.hid hg
  clear hf hg L
  simp only [List.take_succ_cons, List.take_zero, List.drop_succ_cons, List.drop_zero, Act.put, List.setIfInBounds_toArray, List.set_cons_succ, List.set_cons_zero]
  repeat (go_big_quiet_step ((go_at_call 53; (first | with_reducible exact calls_class (G0.out _) (fun _ hb => Hg.out _ ((Hf.out _).on hb)) | with_reducible exact calls_class (G1.out _) (fun _ hb => Hg.out _ ((Hf.out _).on hb)) | with_reducible exact calls_class (G2.out _) (fun _ hb => Hg.out _ ((Hf.out _).on hb)) | with_reducible exact calls_class (G3.out _) (fun _ hb => Hg.out _ ((Hf.out _).on hb)) | with_reducible exact calls_class (G4.out _) (fun _ hb => Hg.out _ ((Hf.out _).on hb))))))
  refine wpQuiet_nil ?_
  rintro _ ⟨x, rfl⟩
  have L := Hf.out x
  clear cl Hf Hg
  generalize f x = W2 at L ⊢
  clear hX
  have HX := Lib.hid L.2.1
  have HB := Lib.hid L.2.2
  clear L
  go_wp2_with (first
    | (with_reducible refine wpList_build_known (o := ⟨some 13, .build _ _, _, _, _, _⟩) rfl _ _ _ rfl rfl _ (fun w => run_build_geo w ⟨v1, v2, v3, v4, v5⟩) ?_)
    | ((with_reducible refine wpList_ge_store (o := ⟨none, .store _ _ _, _, _, _, _⟩) rfl _ _ rfl (w.heap.size + 1) ⟨v1, v2, v3, v4, v5⟩ g0 rfl rfl HX.out ?_); intro w9 hb9 hg9 _)
    | fail)
  rw [← HT.out] at hb9
  have hldF := big_load0 Try.prog (w.heap.size + 1) 0 (gcs (gtaken p)) mr (by rw [gcs_length, HM.out.2]) _ hb9.range0
  generalize hR : gcs (gtaken p) = R at hldF ⊢
  exact bodyPost_ret (v := .agg R.toArray) (by simp [results, Try.results38, go_sem, hszr, hldF]) rfl ⟨rfl, below_stored HB.out.1 hg9 HB.out.1.size (by omega)⟩

set_option maxRecDepth 100000 in
set_option maxHeartbeats 4000000 in
theorem msread_any (p : List Int) (w : World) (hl : p.length = 64) (hp : octets p) :
    Calls Try.prog 14 #[.agg (bs p).toArray] w fun e w' => e = .returned (.tuple #[.agg (mcs (readS p).1).toArray, .int .i64 (readS p).2]) ∧ Below w.heap.size w w' := by
  obtain ⟨m6, hm, hsz⟩ := big_size (P := Try.prog) (t := 28) (s := 64) (by kernel_rfl)
  obtain ⟨mr, hmr, hszr⟩ := big_size (P := Try.prog) (t := 24) (s := 6) (by kernel_rfl)
  have hm0 : ¬ m6 = 0 := by omega
  have hmr0 : ¬ mr = 0 := by omega
  have HP := Lib.hid (And.intro hl hp)
  have HM := Lib.hid (And.intro hm hmr)
  have HTk := Lib.hid fun w' => mstaken_any p w' hl hp
  have HLay := Lib.hid fun w' => mslay_any (taken p) w' (taken_in hp)
  have HFl := Lib.hid fun w' => mfault_any p (layS (taken p)) w' hl hp (layS_length _)
  have HF := Lib.hid (fault_lay (p := p))
  clear hm hmr hl hp
  generalize faultS p (layS (taken p)) = k at *
  generalize hY : bs (layS (taken p)) = Y at *
  generalize taken p = tk at *
  clear hY
  have LR := Lib.hid fun (W : World) (b : Nat) (x : Mst) (h : Box W b 24 (mcs x)) => big_load0 Try.prog b 0 (mcs x) mr (by rw [mcs_length, HM.out.2]) W h.range0
  go_enter Try.func14, Try.ntmps14
  go_wp2_with (first
    | ((with_reducible refine wpList_pg_box (o := ⟨some 1, .box _ _, _, _, _, _⟩) rfl _ rfl p rfl ?_); intro w1 x0 hB1 hs1)
    | ((with_reducible refine wpList_ms_alloc (o := ⟨some 2, .alloc _, _, _, _, _⟩) rfl rfl ?_); intro w2 x1 hB2 hs2; have L := TwoBx.start x0 hB1 hs1 x1 hB2 hs2; rw [hs1]; clear hs1 hs2 x0 x1 hB1 hB2; have hld := big_load0 Try.prog w.heap.size 0 (bs p) m6 (by rw [bs_length, HP.out.1, HM.out.1]) _ L.1.range0)
    | fail)
  refine (HTk.out _).mono ?_
  rintro e w3 ⟨rfl, hb3⟩
  replace L := L.on hb3
  clear hb3 hld HTk
  go_wp2_with (first
    | ((with_reducible refine wpList_ms_alloc (o := ⟨some 4, .alloc _, _, _, _, _⟩) rfl rfl ?_); intro w5 x5 hB5 _)
    | ((with_reducible refine wpList_ms_store (o := ⟨none, .store _ _ _, _, _, _, _⟩) rfl _ _ rfl w3.heap.size tk m0 rfl rfl x5 ?_); intro w6 x6 hg6 _)
    | fail)
  have L3 : ThreeBx w w6 28 (bs p) 24 (mcs m0) w3.heap.size 24 (mcs tk) := ⟨L.on (below_stored hB5 hg6 hB5.size (Nat.le_refl _)), x6, L.2.2.2⟩
  clear x5 hB5 x6 hg6 L
  generalize w3.heap.size = b at L3 ⊢
  have LP := Lib.hid fun (W : World) (L : ThreeBx w W 28 (bs p) 24 (mcs m0) b 24 (mcs tk)) => big_load0 Try.prog w.heap.size 0 (bs p) m6 (by rw [bs_length, HP.out.1, HM.out.1]) W L.1.1.range0
  refine wp_region_class (fun w' => ThreeBx w w' 28 (bs p) 24 (mcs m0) b 24 (mcs tk)) (by kernel_rfl) (by kernel_rfl) L3.drew ?_
  intro X hX f hf hg
  have cl := fun x => LP.out _ (hf x)
  have cr := fun x => LR.out _ _ tk (hf x).2.1
  have Hf := Lib.hid hf
  have Hg := Lib.hid hg
  clear hf hg L3
  simp only [Act.put, List.setIfInBounds_toArray, List.set_cons_succ, List.set_cons_zero]
  repeat (go_big_quiet_step (first
    | (go_at_call 11; with_reducible exact calls_class (HLay.out _) (fun _ hb => Hg.out _ ((Hf.out _).on hb)))
    | (go_at_call 35; with_reducible exact calls_class (HFl.out _) (fun _ hb => Hg.out _ ((Hf.out _).on hb)))))
  refine wpQuiet_nil ?_
  rintro _ ⟨x, rfl⟩
  have L := Hf.out x
  clear cl cr Hf Hg HLay HFl LP
  generalize f x = wx at L ⊢
  clear hX
  have HX := Lib.hid L.1.2.1
  have HB := Lib.hid L.1.2.2
  by_cases hk : k = 0
  · subst hk
    have HS := Lib.hid (HF.out.1 rfl)
    have cr := LR.out _ _ tk L.2.1
    clear L HF
    go_wp2_with (first
      | ((with_reducible refine wpList_ms_store (o := ⟨none, .store _ _ _, _, _, _, _⟩) rfl _ _ rfl (w.heap.size + 1) tk m0 rfl rfl HX.out ?_); intro w9 hb9 hg9 _)
      | fail)
    have hldF := big_load0 Try.prog (w.heap.size + 1) 0 (mcs tk) mr (by rw [mcs_length, HM.out.2]) _ hb9.range0
    generalize hR : mcs tk = R at hldF ⊢
    exact bodyPost_ret (v := .tuple #[.agg R.toArray, .int .i64 0]) (by simp [results, Try.results14, go_sem, hszr, hldF]) rfl ⟨by rw [HS.out, hR], below_stored HB.out.1 hg9 HB.out.1.size (by omega)⟩
  · have HS := Lib.hid (HF.out.2 hk)
    have hk0 : (k == 0) = false := by simp [hk]
    clear L HF
    go_wp2_with (first
      | (with_reducible refine wpList_ms_zero (o := ⟨some 14, .build _ _, _, _, _, _⟩) rfl rfl ?_)
      | ((with_reducible refine wpList_ms_store (o := ⟨none, .store _ _ _, _, _, _, _⟩) rfl _ _ rfl (w.heap.size + 1) m0 m0 rfl rfl HX.out ?_); intro w9 hb9 hg9 _)
      | fail)
    have hldF := big_load0 Try.prog (w.heap.size + 1) 0 (mcs m0) mr (by rw [mcs_length, HM.out.2]) _ hb9.range0
    generalize hR : mcs m0 = R at hldF ⊢
    exact bodyPost_ret (v := .tuple #[.agg R.toArray, .int .i64 k]) (by simp [results, Try.results14, go_sem, hszr, hldF]) rfl ⟨by rw [HS.out, hR], below_stored HB.out.1 hg9 HB.out.1.size (by omega)⟩

set_option maxRecDepth 100000 in
set_option maxHeartbeats 4000000 in
theorem geread_any (p : List Int) (w : World) (hl : p.length = 64) (hp : octets p) :
    Calls Try.prog 16 #[.agg (bs p).toArray] w fun e w' => e = .returned (.tuple #[.agg (gcs (readGS p).1).toArray, .int .i64 (readGS p).2]) ∧ Below w.heap.size w w' := by
  obtain ⟨m6, hm, hsz⟩ := big_size (P := Try.prog) (t := 28) (s := 64) (by kernel_rfl)
  obtain ⟨mr, hmr, hszr⟩ := big_size (P := Try.prog) (t := 38) (s := 5) (by kernel_rfl)
  have hm0 : ¬ m6 = 0 := by omega
  have hmr0 : ¬ mr = 0 := by omega
  have HP := Lib.hid (And.intro hl hp)
  have HM := Lib.hid (And.intro hm hmr)
  have HTk := Lib.hid fun w' => getaken_any p w' hl hp
  have HLay := Lib.hid fun w' => gelay_any (gtaken p) w' (gtaken_seq hp)
  have HFl := Lib.hid fun w' => mfault_any p (glayS (gtaken p)) w' hl hp (glayS_length _)
  have HF := Lib.hid (gfault_lay (p := p))
  clear hm hmr hl hp
  generalize faultS p (glayS (gtaken p)) = k at *
  generalize hY : bs (glayS (gtaken p)) = Y at *
  generalize gtaken p = tk at *
  clear hY
  have LR := Lib.hid fun (W : World) (b : Nat) (x : Ge) (h : Box W b 38 (gcs x)) => big_load0 Try.prog b 0 (gcs x) mr (by rw [gcs_length, HM.out.2]) W h.range0
  go_enter Try.func16, Try.ntmps16
  go_wp2_with (first
    | ((with_reducible refine wpList_pg_box (o := ⟨some 1, .box _ _, _, _, _, _⟩) rfl _ rfl p rfl ?_); intro w1 x0 hB1 hs1)
    | ((with_reducible refine wpList_ge_alloc (o := ⟨some 2, .alloc _, _, _, _, _⟩) rfl rfl ?_); intro w2 x1 hB2 hs2; have L := TwoBx.start x0 hB1 hs1 x1 hB2 hs2; rw [hs1]; clear hs1 hs2 x0 x1 hB1 hB2; have hld := big_load0 Try.prog w.heap.size 0 (bs p) m6 (by rw [bs_length, HP.out.1, HM.out.1]) _ L.1.range0)
    | fail)
  refine (HTk.out _).mono ?_
  rintro e w3 ⟨rfl, hb3⟩
  replace L := L.on hb3
  clear hb3 hld HTk
  go_wp2_with (first
    | ((with_reducible refine wpList_ge_alloc (o := ⟨some 4, .alloc _, _, _, _, _⟩) rfl rfl ?_); intro w5 x5 hB5 _)
    | ((with_reducible refine wpList_ge_store (o := ⟨none, .store _ _ _, _, _, _, _⟩) rfl _ _ rfl w3.heap.size tk g0 rfl rfl x5 ?_); intro w6 x6 hg6 _)
    | fail)
  have L3 : ThreeBx w w6 28 (bs p) 38 (gcs g0) w3.heap.size 38 (gcs tk) := ⟨L.on (below_stored hB5 hg6 hB5.size (Nat.le_refl _)), x6, L.2.2.2⟩
  clear x5 hB5 x6 hg6 L
  generalize w3.heap.size = b at L3 ⊢
  have LP := Lib.hid fun (W : World) (L : ThreeBx w W 28 (bs p) 38 (gcs g0) b 38 (gcs tk)) => big_load0 Try.prog w.heap.size 0 (bs p) m6 (by rw [bs_length, HP.out.1, HM.out.1]) W L.1.1.range0
  refine wp_region_class (fun w' => ThreeBx w w' 28 (bs p) 38 (gcs g0) b 38 (gcs tk)) (by kernel_rfl) (by kernel_rfl) L3.drew ?_
  intro X hX f hf hg
  have cl := fun x => LP.out _ (hf x)
  have cr := fun x => LR.out _ _ tk (hf x).2.1
  have Hf := Lib.hid hf
  have Hg := Lib.hid hg
  clear hf hg L3
  simp only [Act.put, List.setIfInBounds_toArray, List.set_cons_succ, List.set_cons_zero]
  repeat (go_big_quiet_step (first
    | (go_at_call 19; with_reducible exact calls_class (HLay.out _) (fun _ hb => Hg.out _ ((Hf.out _).on hb)))
    | (go_at_call 35; with_reducible exact calls_class (HFl.out _) (fun _ hb => Hg.out _ ((Hf.out _).on hb)))))
  refine wpQuiet_nil ?_
  rintro _ ⟨x, rfl⟩
  have L := Hf.out x
  clear cl cr Hf Hg HLay HFl LP
  generalize f x = wx at L ⊢
  clear hX
  have HX := Lib.hid L.1.2.1
  have HB := Lib.hid L.1.2.2
  by_cases hk : k = 0
  · subst hk
    have HS := Lib.hid (HF.out.1 rfl)
    have cr := LR.out _ _ tk L.2.1
    clear L HF
    go_wp2_with (first
      | ((with_reducible refine wpList_ge_store (o := ⟨none, .store _ _ _, _, _, _, _⟩) rfl _ _ rfl (w.heap.size + 1) tk g0 rfl rfl HX.out ?_); intro w9 hb9 hg9 _)
      | fail)
    have hldF := big_load0 Try.prog (w.heap.size + 1) 0 (gcs tk) mr (by rw [gcs_length, HM.out.2]) _ hb9.range0
    generalize hR : gcs tk = R at hldF ⊢
    exact bodyPost_ret (v := .tuple #[.agg R.toArray, .int .i64 0]) (by simp [results, Try.results16, go_sem, hszr, hldF]) rfl ⟨by rw [HS.out, hR], below_stored HB.out.1 hg9 HB.out.1.size (by omega)⟩
  · have HS := Lib.hid (HF.out.2 hk)
    have hk0 : (k == 0) = false := by simp [hk]
    clear L HF
    go_wp2_with (first
      | (with_reducible refine wpList_ge_zero (o := ⟨some 14, .build _ _, _, _, _, _⟩) rfl rfl ?_)
      | ((with_reducible refine wpList_ge_store (o := ⟨none, .store _ _ _, _, _, _, _⟩) rfl _ _ rfl (w.heap.size + 1) g0 g0 rfl rfl HX.out ?_); intro w9 hb9 hg9 _)
      | fail)
    have hldF := big_load0 Try.prog (w.heap.size + 1) 0 (gcs g0) mr (by rw [gcs_length, HM.out.2]) _ hb9.range0
    generalize hR : gcs g0 = R at hldF ⊢
    exact bodyPost_ret (v := .tuple #[.agg R.toArray, .int .i64 k]) (by simp [results, Try.results16, go_sem, hszr, hldF]) rfl ⟨by rw [HS.out, hR], below_stored HB.out.1 hg9 HB.out.1.size (by omega)⟩
end Go.Proofs.Ytoehflalpidhfaa

/-
  RecE RecF Mix RecG
-/
import Derived.Test.YthgjlofebicpiaaMg12
import Derived.Laws.Cover3
import Derived.WalkKit
import Derived.Test.YthgjlofebicpiaaMg04
import Derived.Test.YthgjlofebicpiaaMg09
/-
  Package rec: Read.
-/
namespace Go.Proofs.Ythgjlofebicpiaa
open Go.RowKit Word Crc Rec
set_option linter.unusedVariables false

/-- what stands in memory while a sector is read: the sector, and the answer's variable -/
def RdSt (w W : World) (p : List Int) : Prop := Box W w.heap.size 62 (bs p) ∧ Box W (w.heap.size + 1) 50 (rcs rc0) ∧ Below w.heap.size w W ∧ w.heap.size + 2 ≤ W.heap.size
theorem RdSt.below {w W W' : World} {p : List Int} (h : RdSt w W p) (hb : Below W.heap.size W W') : RdSt w W' p := by
  have := h.2.2.2
  exact ⟨h.1.below hb (by omega), h.2.1.below hb (by omega), bthen h.2.2.1 hb, Nat.le_trans h.2.2.2 hb.size⟩
theorem RdSt.drew {w W : World} {p : List Int} (h : RdSt w W p) : RdSt w W.drew p := ⟨h.1, h.2.1, h.2.2.1.drew, h.2.2.2⟩
theorem RdSt.start {w w1 w2 : World} {p : List Int} (x0 : Box w1 w.heap.size 62 (bs p)) (hB1 : Below w.heap.size w w1) (hs1 : w1.heap.size = w.heap.size + 1) (x1 : Box w2 w1.heap.size 50 (rcs rc0)) (hB2 : Below w1.heap.size w1 w2) (hs2 : w2.heap.size = w1.heap.size + 1) : RdSt w w2 p := by
  rw [hs1] at x1
  exact ⟨x0.below hB2 (by omega), x1, bthen hB1 hB2, by omega⟩

set_option maxRecDepth 100000 in
set_option maxHeartbeats 2000000 in
theorem rctaken_any (p : List Int) (w : World) (hl : p.length = 64) (hp : octets p) :
    Calls Try.prog 71 #[.agg (bs p).toArray] w fun e w' => e = .returned (.agg (rcs (taken p)).toArray) ∧ Below w.heap.size w w' := by
  obtain ⟨m, hm, hsz⟩ := big_size (P := Try.prog) (t := 62) (s := 64) (by kernel_rfl)
  obtain ⟨m3, hm3, hsz3⟩ := big_size (P := Try.prog) (t := 48) (s := 32) (by kernel_rfl)
  obtain ⟨mr, hmr, hszr⟩ := big_size (P := Try.prog) (t := 50) (s := 37) (by kernel_rfl)
  have hm0 : ¬ m = 0 := by omega
  have hm30 : ¬ m3 = 0 := by omega
  have HIn := Lib.hid (taken_in hl hp)
  have G1 := Lib.hid fun w' => (recget_any 1 8 p w' (by omega) (by omega) (by omega) hl hp : Calls Try.prog 94 #[.agg (bs p).toArray, .int .i64 1, .int .i64 8] w' _)
  have G2 := Lib.hid fun w' => (recget_any 9 8 p w' (by omega) (by omega) (by omega) hl hp : Calls Try.prog 94 #[.agg (bs p).toArray, .int .i64 9, .int .i64 8] w' _)
  have G3 := Lib.hid fun w' => (recget_any 17 4 p w' (by omega) (by omega) (by omega) hl hp : Calls Try.prog 94 #[.agg (bs p).toArray, .int .i64 17, .int .i64 4] w' _)
  have G4 := Lib.hid fun w' => (recget_any 21 4 p w' (by omega) (by omega) (by omega) hl hp : Calls Try.prog 94 #[.agg (bs p).toArray, .int .i64 21, .int .i64 4] w' _)
  have HL := Lib.hid (And.intro hl (And.intro hm (And.intro hm3 hmr)))
  have HT := Lib.hid (show taken p = ⟨p.getD 0 0, i64 (get p 1 8), i64 (get p 9 8), i64 (get p 17 4), i64 (get p 21 4), (p.drop 25).take 32⟩ from rfl)
  have h0 := octets_getD hp 0
  have h00 := h0.1
  have h01 := h0.2
  clear hm hm3 hmr hl hp h0
  go_enter Try.func71, Try.ntmps71
  go_wp2_with (first
    | (with_reducible refine wpList_pg_box (o := ⟨some 1, .box _ _, _, _, _, _⟩) rfl _ rfl p rfl ?_; intro w1 x0 hB1 hs1)
    | (with_reducible refine wpList_rc_alloc (o := ⟨some 2, .alloc _, _, _, _, _⟩) rfl rfl ?_; intro w2 x1 hB2 hs2; have L := RdSt.start x0 hB1 hs1 x1 hB2 hs2; rw [hs1]; clear hs1 hs2 x0 x1 hB1 hB2)
    | fail)
  refine wp_region_class_tail (fun w' => RdSt w w' p) 14 (by kernel_rfl) (by kernel_rfl) L.drew ?_
  intro X hX f hf hg
  have c0 := fun x => ((hf x).1.cell 0).trans (bs_get (k := 0) (by rw [HL.out.1]; decide))
  have cl := fun x => big_load0 Try.prog w.heap.size 0 (bs p) m (by rw [bs_length, HL.out.1, HL.out.2.1]) (f x) (hf x).1.range0
  have cd := fun x => big_load0 Try.prog w.heap.size 25 (bs ((p.drop 25).take 32)) m3 (by rw [bs_length, HL.out.2.2.1, List.length_take, List.length_drop, HL.out.1]; rfl) (f x) ((hf x).1.range 25 _ fun j v hj => by
    rw [bs_take, bs_drop, List.getElem?_take] at hj
    split at hj
    · rwa [List.getElem?_drop] at hj
    · cases hj)
  have hat := fun w' => run_arrayAt (P := Try.prog) w' 48 _ 32 (some ⟨w.heap.size, 25, none⟩) 32 39 Try.underlying48 (by decide)
  have Hf := Lib.hid hf
  have Hg := Lib.hid hg
  clear hf hg L
  generalize p.getD 0 0 = p0 at *
  generalize i64 (get p 1 8) = v1 at *
  generalize i64 (get p 9 8) = v2 at *
  generalize i64 (get p 17 4) = v3 at *
  generalize i64 (get p 21 4) = v4 at *
  generalize bs p = P64 at *
  simp only [List.take_succ_cons, List.take_zero, List.drop_succ_cons, List.drop_zero, Act.put, List.setIfInBounds_toArray, List.set_cons_succ, List.set_cons_zero]
  repeat (go_big_quiet_step ((go_at_call 94; (first | with_reducible exact calls_class (G1.out _) (fun _ hb => Hg.out _ ((Hf.out _).below hb)) | with_reducible exact calls_class (G2.out _) (fun _ hb => Hg.out _ ((Hf.out _).below hb)) | with_reducible exact calls_class (G3.out _) (fun _ hb => Hg.out _ ((Hf.out _).below hb)) | with_reducible exact calls_class (G4.out _) (fun _ hb => Hg.out _ ((Hf.out _).below hb))))))
  refine wpQuiet_nil ?_
  rintro _ ⟨x, rfl⟩
  have L := Hf.out x
  have HR := Lib.hid (show In ⟨p0, v1, v2, v3, v4, (p.drop 25).take 32⟩ from HT.out ▸ HIn.out)
  have HX := Lib.hid L.2.1
  have HB := Lib.hid L.2.2
  clear c0 cl cd hat Hf Hg L G1 G2 G3 G4
  generalize f x = W at HX HB ⊢
  clear HIn hX
  go_wp2_with (first
    | (with_reducible refine wpList_rc_build6 (o := ⟨some 17, .build _ _, _, _, _, _⟩) rfl _ _ _ _ _ _ rfl ⟨p0, v1, v2, v3, v4, (p.drop 25).take 32⟩ HR.out rfl rfl rfl rfl rfl rfl ?_)
    | (with_reducible refine wpList_rc_store (o := ⟨none, .store _ _ _, _, _, _, _⟩) rfl _ _ rfl (w.heap.size + 1) ⟨p0, v1, v2, v3, v4, (p.drop 25).take 32⟩ rc0 HR.out rc0_in rfl rfl HX.out ?_; intro w9 hb9 hg9 _)
    | fail)
  have hldF := big_load0 Try.prog (w.heap.size + 1) 0 (rcs ⟨p0, v1, v2, v3, v4, (p.drop 25).take 32⟩) mr (by rw [rcs_length HR.out.1, HL.out.2.2.2]) _ hb9.range0
  generalize hR : rcs ⟨p0, v1, v2, v3, v4, (p.drop 25).take 32⟩ = R at hldF ⊢
  exact bodyPost_ret (v := .agg R.toArray) (by simp [results, Try.results71, go_sem, hszr, hldF]) rfl ⟨by rw [HT.out, hR], below_stored HB.out.1 hg9 HB.out.1.size (by omega)⟩

/-- the record that stands in a sector, in a variable of its own beside the others -/
def RdSt2 (w W : World) (p : List Int) (b : Nat) (r : Rc) : Prop := RdSt w W p ∧ Box W b 50 (rcs r) ∧ w.heap.size + 2 ≤ b
theorem RdSt2.below {w W W' : World} {p : List Int} {b : Nat} {r : Rc} (h : RdSt2 w W p b r) (hb : Below W.heap.size W W') : RdSt2 w W' p b r := ⟨h.1.below hb, h.2.1.below hb h.2.1.lt, h.2.2⟩
theorem RdSt2.drew {w W : World} {p : List Int} {b : Nat} {r : Rc} (h : RdSt2 w W p b r) : RdSt2 w W.drew p b r := ⟨h.1.drew, h.2.1, h.2.2⟩
theorem RdSt2.start {w w3 w4 w5 : World} {p : List Int} {r : Rc} (L : RdSt w w3 p) (h : Box w4 w3.heap.size 50 (rcs rc0)) (hB : Below w3.heap.size w3 w4) (h5 : Box w5 w3.heap.size 50 (rcs r)) (hg : w4.grownBy w5 (some w3.heap.size)) : RdSt2 w w5 p w3.heap.size r := by
  have hL := L.below hB
  have h2 := L.2.2.2
  refine ⟨⟨hL.1.grown hg (by omega), hL.2.1.grown hg (by omega), below_stored hL.2.2.1 hg hL.2.2.1.size (by omega), Nat.le_trans hL.2.2.2 hg.size⟩, h5, h2⟩

set_option maxRecDepth 100000 in
set_option maxHeartbeats 2000000 in
theorem rcread_any (p : List Int) (w : World) (hl : p.length = 64) (hp : octets p) :
    Calls Try.prog 48 #[.agg (bs p).toArray] w fun e w' => e = .returned (.tuple #[.agg (rcs (readS p).1).toArray, .int .i64 (readS p).2]) ∧ Below w.heap.size w w' := by
  obtain ⟨m, hm, hsz⟩ := big_size (P := Try.prog) (t := 62) (s := 64) (by kernel_rfl)
  obtain ⟨mr, hmr, hszr⟩ := big_size (P := Try.prog) (t := 50) (s := 37) (by kernel_rfl)
  have hm0 : ¬ m = 0 := by omega
  have hmr0 : ¬ mr = 0 := by omega
  have HP := Lib.hid (And.intro hl hp)
  have HM := Lib.hid (And.intro hm hmr)
  clear hm hmr hl hp
  go_enter Try.func48, Try.ntmps48
  go_wp2_with (first
    | (with_reducible refine wpList_pg_box (o := ⟨some 1, .box _ _, _, _, _, _⟩) rfl _ rfl p rfl ?_; intro w1 x0 hB1 hs1)
    | (with_reducible refine wpList_rc_alloc (o := ⟨some 2, .alloc _, _, _, _, _⟩) rfl rfl ?_; intro w2 x1 hB2 hs2; have L := RdSt.start x0 hB1 hs1 x1 hB2 hs2; rw [hs1]; clear hs1 hs2 x0 x1 hB1 hB2)
    | fail)
  have HRi := Lib.hid (cright_any (some ⟨w.heap.size, 0, none⟩) 64 64 p w2 (by decide) (by decide) (by decide) HP.out.1 HP.out.2 _ (Rd.own (L.1.own (by rw [bs_length, HP.out.1]) (by decide) 0 (Nat.zero_le _))))
  refine HRi.out.mono ?_
  rintro e w3 ⟨rfl, q, rfl⟩
  replace L : RdSt w (w2.drewN q) p := ⟨L.1, L.2.1, below_draws L.2.2.1 q, L.2.2.2⟩
  generalize w2.drewN q = w3 at L ⊢
  clear HRi
  cases hri : rightB p with
  | false =>
    have HS := Lib.hid (show readS p = (rc0, 8) by unfold readS; rw [if_pos hri])
    have HX := Lib.hid L.2.1
    have HB := Lib.hid L.2.2
    clear hri L
    go_wp2_with (first
      | (with_reducible refine wpList_rc_zero (o := ⟨some 8, .build _ _, _, _, _, _⟩) rfl rfl ?_)
      | (with_reducible refine wpList_rc_store (o := ⟨none, .store _ _ _, _, _, _, _⟩) rfl _ _ rfl (w.heap.size + 1) rc0 rc0 rc0_in rc0_in rfl rfl HX.out ?_; intro w9 hb9 hg9 _)
      | fail)
    have hldF := big_load0 Try.prog (w.heap.size + 1) 0 (rcs rc0) mr (by rw [rcs_length rc0_in.1, HM.out.2]) _ hb9.range0
    generalize hR : rcs rc0 = R at hldF ⊢
    exact bodyPost_ret (v := .tuple #[.agg R.toArray, .int .i64 8]) (by simp [results, Try.results48, go_sem, hszr, hldF]) rfl ⟨by rw [HS.out, hR], below_stored HB.out.1 hg9 HB.out.1.size (by omega)⟩
  | true =>
    have HTk := Lib.hid fun w' => rctaken_any p w' HP.out.1 HP.out.2
    have HI := Lib.hid (taken_in HP.out.1 HP.out.2)
    have hld := big_load0 Try.prog w.heap.size 0 (bs p) m (by rw [bs_length, HP.out.1, HM.out.1]) _ L.1.range0
    have HL := Lib.hid L
    clear L
    go_wp2_with fail
    refine (HTk.out _).mono ?_
    rintro e w4 ⟨rfl, hb4⟩
    have HL' := Lib.hid (HL.out.below hb4)
    clear HL hld hb4
    go_wp2_with (first
      | (with_reducible refine wpList_rc_alloc (o := ⟨some 4, .alloc _, _, _, _, _⟩) rfl rfl ?_; intro w5 x5 hB5 _)
      | (with_reducible refine wpList_rc_store (o := ⟨none, .store _ _ _, _, _, _, _⟩) rfl _ _ rfl w4.heap.size (taken p) rc0 HI.out rc0_in rfl rfl x5 ?_; intro w6 x6 hg6 _)
      | fail)
    have L2 := RdSt2.start HL'.out x5 hB5 x6 hg6
    clear x5 hB5 x6 hg6 HL' HTk
    have HQ := Lib.hid fun w' => recright_any (taken p) w' HI.out
    have HS' := Lib.hid (show readS p = if okB (taken p) = true ∧ layL (taken p) = p then (taken p, 0) else (rc0, 7) by unfold readS; rw [if_neg (by rw [hri]; simp)])
    clear hri
    generalize w4.heap.size = b at L2 ⊢
    generalize htk : taken p = tk at *
    clear htk
    cases hok : okB tk with
    | false =>
      have HS := Lib.hid (show readS p = (rc0, 7) by rw [HS'.out, hok]; rfl)
      rw [hok] at HQ
      clear HS' hok
      refine wp_region_class (fun w' => RdSt2 w w' p b tk) (by kernel_rfl) (by kernel_rfl) L2.drew ?_
      intro X hX f hf hg
      have cl := fun x => big_load0 Try.prog w.heap.size 0 (bs p) m (by rw [bs_length, HP.out.1, HM.out.1]) (f x) (hf x).1.1.range0
      have cr := fun x => big_load0 Try.prog b 0 (rcs tk) mr (by rw [rcs_length HI.out.1, HM.out.2]) (f x) (hf x).2.1.range0
      have Hf := Lib.hid hf
      have Hg := Lib.hid hg
      clear hf hg L2
      simp only [Act.put, List.setIfInBounds_toArray, List.set_cons_succ, List.set_cons_zero]
      repeat (go_big_quiet_step (first
        | (go_at_call 72; exact calls_class (HQ.out _) (fun _ hb => Hg.out _ ((Hf.out _).below hb)))))
      refine wpQuiet_nil ?_
      rintro _ ⟨x, rfl⟩
      have HX := Lib.hid (Hf.out x).1.2.1
      have HB := Lib.hid (Hf.out x).1.2.2
      have HT := Lib.hid (Hf.out x).2.1
      clear cl cr Hf Hg
      generalize f x = wx at HX HB HT ⊢
      go_wp2_with (first
        | (with_reducible refine wpList_rc_zero (o := ⟨some 20, .build _ _, _, _, _, _⟩) rfl rfl ?_)
        | (with_reducible refine wpList_rc_store (o := ⟨none, .store _ _ _, _, _, _, _⟩) rfl _ _ rfl (w.heap.size + 1) rc0 rc0 rc0_in rc0_in rfl rfl HX.out ?_; intro w9 hb9 hg9 _)
        | fail)
      have hldF := big_load0 Try.prog (w.heap.size + 1) 0 (rcs rc0) mr (by rw [rcs_length rc0_in.1, HM.out.2]) _ hb9.range0
      generalize hR : rcs rc0 = R at hldF ⊢
      exact bodyPost_ret (v := .tuple #[.agg R.toArray, .int .i64 7]) (by simp [results, Try.results48, go_sem, hszr, hldF]) rfl ⟨by rw [HS.out, hR], below_stored HB.out.1 hg9 HB.out.1.size (by omega)⟩
    | true =>
      have HLay := Lib.hid fun w' => lay_any tk w' (of_decide_eq_true hok) HI.out
      have HLL := Lib.hid (layL_length tk HI.out.1)
      have hq := fun w' => pg_equal w' (layL tk) p HLL.out HP.out.1
      have hgd := pg_guard
      cases heq : (layL tk == p) with
      | false =>
        have HS := Lib.hid (show readS p = (rc0, 7) by rw [HS'.out, if_neg]; rintro ⟨_, h⟩; rw [h] at heq; simp at heq)
        rw [hok] at HQ
        rw [heq] at hq
        clear HS' hok heq
        generalize bs (layL tk) = Y at hq HLay
        refine wp_region_class (fun w' => RdSt2 w w' p b tk) (by kernel_rfl) (by kernel_rfl) L2.drew ?_
        intro X hX f hf hg
        have cl := fun x => big_load0 Try.prog w.heap.size 0 (bs p) m (by rw [bs_length, HP.out.1, HM.out.1]) (f x) (hf x).1.1.range0
        have cr := fun x => big_load0 Try.prog b 0 (rcs tk) mr (by rw [rcs_length HI.out.1, HM.out.2]) (f x) (hf x).2.1.range0
        have Hf := Lib.hid hf
        have Hg := Lib.hid hg
        clear hf hg L2
        simp only [Act.put, List.setIfInBounds_toArray, List.set_cons_succ, List.set_cons_zero]
        repeat (go_big_quiet_step (first
          | (go_at_call 72; exact calls_class (HQ.out _) (fun _ hb => Hg.out _ ((Hf.out _).below hb)))
          | (go_at_call 73; exact calls_class (HLay.out _) (fun _ hb => Hg.out _ ((Hf.out _).below hb)))))
        refine wpQuiet_nil ?_
        rintro _ ⟨x, rfl⟩
        have HX := Lib.hid (Hf.out x).1.2.1
        have HB := Lib.hid (Hf.out x).1.2.2
        have HT := Lib.hid (Hf.out x).2.1
        clear cl cr Hf Hg
        generalize f x = wx at HX HB HT ⊢
        go_wp2_with (first
          | (with_reducible refine wpList_rc_zero (o := ⟨some 20, .build _ _, _, _, _, _⟩) rfl rfl ?_)
          | (with_reducible refine wpList_rc_store (o := ⟨none, .store _ _ _, _, _, _, _⟩) rfl _ _ rfl (w.heap.size + 1) rc0 rc0 rc0_in rc0_in rfl rfl HX.out ?_; intro w9 hb9 hg9 _)
          | fail)
        have hldF := big_load0 Try.prog (w.heap.size + 1) 0 (rcs rc0) mr (by rw [rcs_length rc0_in.1, HM.out.2]) _ hb9.range0
        generalize hR : rcs rc0 = R at hldF ⊢
        exact bodyPost_ret (v := .tuple #[.agg R.toArray, .int .i64 7]) (by simp [results, Try.results48, go_sem, hszr, hldF]) rfl ⟨by rw [HS.out, hR], below_stored HB.out.1 hg9 HB.out.1.size (by omega)⟩
      | true =>
        have HS := Lib.hid (show readS p = (tk, 0) by rw [HS'.out, if_pos ⟨hok, eq_of_beq heq⟩])
        rw [hok] at HQ
        rw [heq] at hq
        clear HS' hok heq
        generalize bs (layL tk) = Y at hq HLay
        refine wp_region_class (fun w' => RdSt2 w w' p b tk) (by kernel_rfl) (by kernel_rfl) L2.drew ?_
        intro X hX f hf hg
        have cl := fun x => big_load0 Try.prog w.heap.size 0 (bs p) m (by rw [bs_length, HP.out.1, HM.out.1]) (f x) (hf x).1.1.range0
        have cr := fun x => big_load0 Try.prog b 0 (rcs tk) mr (by rw [rcs_length HI.out.1, HM.out.2]) (f x) (hf x).2.1.range0
        have Hf := Lib.hid hf
        have Hg := Lib.hid hg
        clear hf hg L2
        simp only [Act.put, List.setIfInBounds_toArray, List.set_cons_succ, List.set_cons_zero]
        repeat (go_big_quiet_step (first
          | (go_at_call 72; exact calls_class (HQ.out _) (fun _ hb => Hg.out _ ((Hf.out _).below hb)))
          | (go_at_call 73; exact calls_class (HLay.out _) (fun _ hb => Hg.out _ ((Hf.out _).below hb)))))
        refine wpQuiet_nil ?_
        rintro _ ⟨x, rfl⟩
        have HX := Lib.hid (Hf.out x).1.2.1
        have HB := Lib.hid (Hf.out x).1.2.2
        have HT := Lib.hid (Hf.out x).2.1
        clear cl cr Hf Hg
        generalize f x = wx at HX HB HT ⊢
        have cr := big_load0 Try.prog b 0 (rcs tk) mr (by rw [rcs_length HI.out.1, HM.out.2]) wx HT.out.range0
        go_wp2_with (first
          | (with_reducible refine wpList_rc_store (o := ⟨none, .store _ _ _, _, _, _, _⟩) rfl _ _ rfl (w.heap.size + 1) tk rc0 HI.out rc0_in rfl rfl HX.out ?_; intro w9 hb9 hg9 _)
          | fail)
        have hldF := big_load0 Try.prog (w.heap.size + 1) 0 (rcs tk) mr (by rw [rcs_length HI.out.1, HM.out.2]) _ hb9.range0
        generalize hR : rcs tk = R at hldF ⊢
        exact bodyPost_ret (v := .tuple #[.agg R.toArray, .int .i64 0]) (by simp [results, Try.results48, go_sem, hszr, hldF]) rfl ⟨by rw [HS.out, hR], below_stored HB.out.1 hg9 HB.out.1.size (by omega)⟩
end Go.Proofs.Ythgjlofebicpiaa

/-
  'awake' of layer 6 answers true.
-/
namespace Go.Proofs.Ythgjlofebicpiaa
open Go.RowKit Word Crc Rec
set_option linter.unusedVariables false

/-- an array or a struct built of parts, what comes of it being known -/
theorem wpList_build_known {P : Program} {w : World} {ops : Array Oper} {rest : List Oper} {o : Oper} {a : Act} {Q : Exit → Act → World → Prop} (hgd : o.guard = none) (t : TypeId) (ps : Array (Nat × Operand)) (vs : Array (Nat × Value)) (ho : o.op = .build t ps) (hv : (ps.map fun (i, x) => (i, a.eval x)) = vs) (cs : List Value) (hb : ∀ w, (Instr.build t vs).run P w = .ok (.agg cs.toArray) w)
    (h : wpList P ops Q rest (a.put o.dst (.agg cs.toArray)) w) : wpList P ops Q (o :: rest) a w := by
  refine wpList_plain hgd fun K hK => ?_
  unfold Oper.wp execOp
  simp only [ho, Sem.run_bind]
  have e : (ps.map fun x => (x.1, a.eval x.2)) = vs := hv
  rw [e, hb w]
  simp only [Result.andThen_ok]
  exact hK _ _ h

abbrev recA : Rc := ⟨1, 3, 9, 5, 0, 7 :: List.replicate 31 0⟩
theorem recA_ok : Ok recA := by decide
theorem recA_in : In recA := ⟨by decide, by unfold octets; decide⟩
theorem recA_lay : (layL recA).getD 0 0 = 1 ∧ (layL recA).getD 1 0 = 3 ∧ (layL recA).getD 9 0 = 9 ∧ (layL recA).getD 17 0 = 5 ∧ (layL recA).getD 25 0 = 7 := by decide +kernel
theorem pg0_right : rightB pg0 = false := by decide +kernel
theorem read_pg0 : readS pg0 = (rc0, 8) := by unfold readS; rw [if_pos pg0_right]
theorem data7_build (w : World) : (Instr.build 48 #[(0, .int .u8 7)]).run Try.prog w = .ok (.agg (bs (7 :: List.replicate 31 0)).toArray) w := by
  unfold Instr.build
  simp only [Sem.run_bind, zero_data w, Result.andThen, run_underlying Try.underlying48, size_u8]
  rfl
set_option maxRecDepth 100000 in
theorem recA_build (w : World) : (Instr.build 50 #[(0, .int .i64 1), (1, .int .i64 3), (2, .int .i64 9), (3, .int .i64 5), (5, .agg (bs (7 :: List.replicate 31 0)).toArray)]).run Try.prog w = .ok (.agg (rcs recA).toArray) w := by
  have hp := rec_places w
  simp only [Program.fieldsOf, Try.underlying50] at hp
  unfold Instr.build
  simp only [Sem.run_bind, zero_rec w, Result.andThen, run_underlying Try.underlying50, hp]
  rfl
end Go.Proofs.Ythgjlofebicpiaa

/-
  A row laid over another from the front. Nothing here speaks of one program.
-/
namespace Go.Proofs.Ythgjlofebicpiaa
/-- a row laid over another from the front -/
def mix (S p : List Int) (n : Nat) : List Int := S.take n ++ p.drop n
theorem mix_length {S p : List Int} {n : Nat} (h : S.length = p.length) (hn : n ≤ p.length) : (mix S p n).length = p.length := by simp [mix, h]; omega
theorem mix_set {S p : List Int} {n : Nat} (h : S.length = p.length) (hn : n < p.length) : (mix S p n).set n (S.getD n 0) = mix S p (n + 1) := by
  unfold mix
  have e : (S.take n).length = n := by simp; omega
  rw [List.set_append_right _ _ (by omega), e, Nat.sub_self, List.drop_eq_getElem_cons hn, List.set_cons_zero, List.take_succ_eq_append_getElem (by omega), List.append_assoc]
  simp [List.getD_eq_getElem?_getD, List.getElem?_eq_getElem (show n < S.length by omega)]
theorem mix_all {S p : List Int} {n : Nat} (h : S.length = p.length) (hn : n = p.length) : mix S p n = S := by
  unfold mix
  rw [List.drop_eq_nil_of_le (by omega), List.append_nil, List.take_of_length_le (by omega)]
theorem mix_zero (S p : List Int) : mix S p 0 = p := by simp [mix]
end Go.Proofs.Ythgjlofebicpiaa

/-
  Layer 6: the arguments opened; the law's 'sealed'.
-/
namespace Go.Proofs.Ythgjlofebicpiaa
open Go.RowKit Word Crc Rec
set_option linter.unusedVariables false

set_option maxRecDepth 100000 in
theorem open_page {H : Type} {enc : TypeId × Value → H} {w : World} {base b0 : Nat} {r : Reach} {sp : Nat → Bool} {held : Bool} {v : Value} {d : DataW H} {ps : List MemPlace}
    (hu : Value.okWide Try.prog w r b0 62 v) (h : DataW.Trod enc Try.prog w base sp held 62 v d ps) : ∃ p : List Int, v = .agg (bs p).toArray ∧ p.length = 64 ∧ octets p := by
  obtain ⟨cs, rfl, hs⟩ := has_agg (s := .rep 64 1 (.int .u8)) 3 (by kernel_rfl) h hu (.inr ⟨_, _, Try.underlying62⟩)
  obtain ⟨ws, h1, rfl, h3⟩ := has_ints hs
  exact ⟨ws, rfl, h1, wf_u8 h3⟩
set_option maxRecDepth 100000 in
theorem open_rec {H : Type} {enc : TypeId × Value → H} {w : World} {base b0 : Nat} {r : Reach} {sp : Nat → Bool} {held : Bool} {v : Value} {d : DataW H} {ps : List MemPlace}
    (hu : Value.okWide Try.prog w r b0 50 v) (h : DataW.Trod enc Try.prog w base sp held 50 v d ps) : ∃ x : Rc, v = .agg (rcs x).toArray ∧ In x := by
  obtain ⟨cs, rfl, hs⟩ := has_agg (s := .pair 1 (.int .i64) (.pair 1 (.int .i64) (.pair 1 (.int .i64) (.pair 1 (.int .i64) (.pair 1 (.int .i64) (.pair 32 (.rep 32 1 (.int .u8)) .nil)))))) 3 (by kernel_rfl) h hu (.inl ⟨_, Try.underlying50⟩)
  obtain ⟨_, _, rfl, _, ⟨k, rfl, _⟩, _, _, rfl, _, ⟨e, rfl, _⟩, _, _, rfl, _, ⟨s, rfl, _⟩, _, _, rfl, _, ⟨b, rfl, _⟩, _, _, rfl, _, ⟨c, rfl, _⟩, _, _, rfl, _, hd, rfl⟩ := hs
  obtain ⟨ws, h1, rfl, h3⟩ := has_ints hd
  refine ⟨⟨k, e, s, b, c, ws⟩, ?_, h1, wf_u8 h3⟩
  simp [rcs, bs]

def sealedP (p : List Int) : List Int := sealed (p.take 60)
theorem sealedP_length {p : List Int} (h : p.length = 64) : (sealedP p).length = 64 := by unfold sealedP; rw [sealed_length]; simp [h]
theorem sealedP_octets {p : List Int} (h : octets p) : octets (sealedP p) := sealed_octets fun z hz => h z (List.mem_of_mem_take hz)
theorem sealedP_mix {p : List Int} (h : p.length = 64) : mix (sealedP p) p 60 = p := by
  unfold mix sealedP
  rw [sealed_take _ 60 (by simp [h]), List.take_append_drop]

/-- a page, and the answer's page beside it -/
def PgSt (w W : World) (p : List Int) : Prop := Box W w.heap.size 62 (bs p) ∧ Box W (w.heap.size + 1) 62 (bs pg0) ∧ Below w.heap.size w W ∧ w.heap.size + 2 ≤ W.heap.size
theorem PgSt.on {w W W' : World} {p : List Int} (h : PgSt w W p) (hb : Below W.heap.size W W') : PgSt w W' p := ⟨h.1.on hb, h.2.1.on hb, bthen h.2.2.1 hb, Nat.le_trans h.2.2.2 hb.size⟩
theorem PgSt.start {w w1 w2 : World} {p : List Int} (x0 : Box w1 w.heap.size 62 (bs p)) (hB1 : Below w.heap.size w w1) (hs1 : w1.heap.size = w.heap.size + 1) (x1 : Box w2 w1.heap.size 62 (bs pg0)) (hB2 : Below w1.heap.size w1 w2) (hs2 : w2.heap.size = w1.heap.size + 1) : PgSt w w2 p := by
  rw [hs1] at x1
  exact ⟨x0.below hB2 (by omega), x1, bthen hB1 hB2, by omega⟩
theorem PgSt.set {w W : World} {p : List Int} (h : PgSt w W p) (n : Nat) (v : Int) : PgSt w (W.setCell ⟨w.heap.size, n, none⟩ (.int .u8 v)) (p.set n v) := by
  refine ⟨?_, h.2.1.same (heap_setCell_other _ _ _ _ (show w.heap.size + 1 ≠ w.heap.size by omega)), h.2.2.1.setCell (Nat.le_refl _) _, by have := h.2.2.2; simpa [World.setCell] using this⟩
  have := h.1.set n (.int .u8 v)
  rwa [← bs_set] at this
theorem PgSt.rd {w W : World} {p : List Int} (h : PgSt w W p) (hp : p.length = 64) : Rd W W.heap.size (some ⟨w.heap.size, 0, none⟩) (bs p) := Rd.own (h.1.own (n := 64) (by rw [bs_length, hp]) (by decide) 0 (Nat.zero_le _))

end Go.Proofs.Ythgjlofebicpiaa

/-
  The law TransWrites of layer 18.
-/
import Derived.Test.YtakpeboicmgnpaaTrX
namespace Go.Proofs.Ytakpeboicmgnpaa
open Go.RowKit Word Tran
set_option linter.unusedVariables false

theorem TBx.cells {w W : World} {l : List (Nat × TypeId × List Value)} {b : Nat} {T : TypeId} {x : Tv} (h : TBx w W l) (hm : (b, T, tnc x) ∈ l) : W.cell? ⟨b, 0, none⟩ = some (.int .i64 x.t.id) ∧ W.cell? ⟨b, 1, none⟩ = some (.int .i64 x.t.bg) ∧ W.cell? ⟨b, 2, none⟩ = some (.slice x.A x.t.ws.length x.cap) := tn_box (h.get hm)
theorem wt_tr {w : World} {B k m : Nat} {A : Option Addr} {l : List Wt} {o : Wt} (hr : Rd w B A (tws l)) (hin : ∀ o ∈ l, WIn o) (hk : l[k]? = some o) (hm : m = 34) : ∃ ad, A = some ad ∧ w.cell? ⟨(ad.add (k * m)).block, (ad.add (k * m)).off + 1, none⟩ = some (.bool o.tr) := by
  subst hm
  obtain ⟨ad, rfl, hb, hc⟩ := hr.at (tws_at hin hk (j := 1) (v := .bool o.tr) rfl)
  refine ⟨ad, rfl, ?_⟩
  have e : (⟨(ad.add (k * 34)).block, (ad.add (k * 34)).off + 1, none⟩ : Addr) = (ad.add (k * 34)).add 1 := by
    conv => rhs; unfold Addr.add
    rfl
  rw [e, addr_add_add]
  exact hc
theorem put_tin {w : Wt} {l : List Wt} {id bg : Int} (h : l.length ≤ 9999) (hi : ∀ o ∈ l, WIn o) (hw : WIn w) : TIn ⟨id, bg, ins w l⟩ := ⟨Nat.le_trans (ins_length w l) (by omega), fun o ho => by
  rcases ins_mem ho with rfl | ho
  · exact hw
  · exact hi o ho⟩
set_option maxRecDepth 100000 in
set_option maxHeartbeats 8000000 in
theorem trlaw_writes (x : Tv) (o : Wt) (b : Int) (w : World) (hx : TRaw w x) (hok : SlOk x.A x.t.ws.length x.cap) (ho : WIn o) :
    Calls Try.prog 3 #[tval x, wval o, .int .i64 b] w fun e w' => e = .returned (.bool true) ∧ Below w.heap.size w w' := by
  obtain ⟨m, hm34, hsz⟩ := big_size (P := Try.prog) (t := 28) (s := 34) (by kernel_rfl)
  have hm0 : ¬ m = 0 := by omega
  have HM := Lib.hid hm34
  obtain ⟨⟨id, bg, ws⟩, A, cap⟩ := x
  have HX := Lib.hid (And.intro hx (And.intro hok ho))
  have HR := Lib.hid fun w' (hb : Below w.heap.size w w') => rright_any18 ⟨⟨id, bg, ws⟩, A, cap⟩ w' hx.few hx.each ((hx.rd.below hb).more hb.size)
  have HZ := Lib.hid (TBx.nil w)
  clear hm34 hx hok ho
  by_cases hri : RiT ⟨id, bg, ws⟩
  rotate_left
  · rw [tr_no hri] at HR
    clear hri
    go_enter Try.func3, Try.ntmps3
    go_wp2_with (first
      | ((with_reducible refine wpList_box_box _ (o := ⟨some 3, .box _ _, _, _, _, _⟩) rfl _ _ rfl (tnc ⟨⟨id, bg, ws⟩, A, cap⟩) rfl ?_); intro w1 x1 B1 s1)
      | ((with_reducible refine wpList_wt_box (o := ⟨some 4, .box _ _, _, _, _, _⟩) rfl _ rfl o rfl ?_); intro w2 x2 B2 s2; have HT2 := Lib.hid ((HZ.out.add B1 x1).add B2 x2); clear x1 B1 s1 x2 B2 s2; generalize w1.heap.size = b4 at *)
      | fail)
    refine (awake18_any _).mono ?_
    rintro e w3 ⟨rfl, hb⟩
    have HT3 := Lib.hid (HT2.out.on hb)
    obtain ⟨c0, c1, c2⟩ := HT3.out.cells (.tail _ (.head _))
    clear hb
    go_wp2_with fail
    refine (HR.out _ HT3.out.2).mono ?_
    rintro e w4 ⟨rfl, hb⟩
    have HT4 := Lib.hid (HT3.out.on hb)
    clear hb c0 c1 c2
    go_wp2_with fail
    refine (awake18_any _).mono ?_
    rintro e wz ⟨rfl, hbz⟩
    have HZz := Lib.hid (bthen HT4.out.2 hbz)
    clear hbz
    go_wp2
    go_ret
    exact ⟨rfl, HZz.out⟩
  rw [tr_yes hri] at HR
  have HRi := Lib.hid (show Rise (keys ws) ∧ ws.length ≤ 60 from hri)
  clear hri
  have hn60 : ws.length ≤ 60 := HRi.out.2
  go_enter Try.func3, Try.ntmps3
  go_wp2_with (first
    | ((with_reducible refine wpList_box_box _ (o := ⟨some 3, .box _ _, _, _, _, _⟩) rfl _ _ rfl (tnc ⟨⟨id, bg, ws⟩, A, cap⟩) rfl ?_); intro w1 x1 B1 s1)
    | ((with_reducible refine wpList_wt_box (o := ⟨some 4, .box _ _, _, _, _, _⟩) rfl _ rfl o rfl ?_); intro w2 x2 B2 s2; have HT2 := Lib.hid ((HZ.out.add B1 x1).add B2 x2); clear x1 B1 s1 x2 B2 s2; generalize w1.heap.size = b4 at *)
    | fail)
  refine (awake18_any _).mono ?_
  rintro e w3 ⟨rfl, hb⟩
  have HT3 := Lib.hid (HT2.out.on hb)
  obtain ⟨c0, c1, c2⟩ := HT3.out.cells (.tail _ (.head _))
  clear hb
  go_wp2_with fail
  refine (HR.out _ HT3.out.2).mono ?_
  rintro e w4 ⟨rfl, hb⟩
  have HT4 := Lib.hid (HT3.out.on hb)
  obtain ⟨c0', c1', c2'⟩ := HT4.out.cells (.tail _ (.head _))
  clear hb c0 c1 c2
  go_wp2_with fail
  go_loopw [7, 8] (fun v7 v8 wr => ∃ k : Nat, v8 = .int .i64 k ∧ k ≤ ws.length ∧ v7 = .int .i64 (cntW (ws.take k) : Nat) ∧ wr = w4) (fun _ v8 _ => ws.length - (intOf v8).toNat)
  case atStart => exact ⟨0, rfl, by omega, rfl, rfl⟩
  case round =>
    obtain ⟨k, rfl, hk, rfl, rfl⟩ := hrel
    have hcn : cntW (ws.take k) ≤ 100 := by
      have h1 : cntW (ws.take k) ≤ (ws.take k).length := List.countP_le_length
      rw [List.length_take] at h1
      omega
    by_cases hlt : k < ws.length
    · have hlk : ws[k]? = some (ws[k]'hlt) := List.getElem?_eq_getElem _
      have HC := Lib.hid (show cntW (ws.take (k + 1)) = cntW (ws.take k) + if (ws[k]'hlt).tr then 0 else 1 by rw [List.take_succ_eq_append_getElem hlt, cntW_snoc])
      obtain ⟨ad, hA, e1⟩ := wt_tr (m := m) (HX.out.1.rd.below HT4.out.2) HX.out.1.each hlk HM.out
      obtain rfl : A = some ad := hA
      generalize ws[k]'hlt = y at *
      generalize cntW (ws.take k) = q at *
      clear hlk
      have hki : (k : Int) < (ws.length : Int) := by omega
      cases htr : y.tr
      · rw [htr] at e1 HC
        clear htr
        go_wp2
        go_roundw
        case rel => exact ⟨k + 1, by go_num, by omega, by rw [HC.out]; go_num, True.intro⟩
        case measure => first | (simp [intOf]; done) | (simp [intOf]; omega)
      · rw [htr] at e1 HC
        clear htr
        go_wp2
        go_roundw
        case rel => exact ⟨k + 1, by go_num, by omega, by rw [HC.out]; rfl, True.intro⟩
        case measure => first | (simp [intOf]; done) | (simp [intOf]; omega)
    · obtain rfl : k = ws.length := by omega
      have HE := Lib.hid (show ws.take ws.length = ws from List.take_of_length_le (Nat.le_refl _))
      rw [HE.out]
      have HFe := Lib.hid (fnd_find (t := b) HRi.out.1)
      have hgd := guard_wt
      obtain ⟨a, ha⟩ : ∃ a, a = (fnd b ws).getD wt0 := ⟨_, rfl⟩
      obtain ⟨ok, hok⟩ : ∃ ok, ok = (fnd b ws).isSome := ⟨_, rfl⟩
      have HF1 := Lib.hid (show fnv b ws = tnv a ok by rw [ha, hok])
      have HF2 := Lib.hid (show tnv ((ws.find? fun y => y.b == b).getD wt0) (ws.find? fun y => y.b == b).isSome = tnv a ok by rw [ha, hok, HFe.out])
      have Ha := Lib.hid (show WIn a by
        rw [ha, HFe.out]
        cases hf : ws.find? fun y => y.b == b with
        | none => exact wt0_in
        | some v => exact HX.out.1.each v (List.mem_of_find?_eq_some hf))
      clear ha hok HFe
      obtain ⟨LA, hLA⟩ : ∃ LA, LA = twc a := ⟨_, rfl⟩
      have HLA := Lib.hid hLA
      have heq : ∀ w', (binOp .eql 28 (.agg LA.toArray) (.agg LA.toArray)).run Try.prog w' = .ok (.bool true) w' := fun w' => by
        rw [hLA, eql_wt w' a a Ha.out Ha.out, (wtEq_iff a a).2 rfl]
      clear hLA
      have HPut : Hid (∀ w', Below w.heap.size w w' → Calls Try.prog 14 #[.agg #[.int .i64 id, .int .i64 bg, .slice A ws.length cap], .agg (twc o).toArray] w' fun e w'' => ∃ z : Tv, e = .returned (tval z) ∧ z.t = ⟨id, bg, putL (clean o) ws⟩ ∧ w''.ownsRow w'.heap.size 28 34 z.v z.t.ws.length (tws z.t.ws) ∧ Below w'.heap.size w' w'') := Lib.hid fun w' hb =>
        put_any ⟨⟨id, bg, ws⟩, A, cap⟩ o w' (show ws.length ≤ 10000 by omega) HX.out.2.1 HX.out.1.each HX.out.2.2 HRi.out.1 ((HX.out.1.rd.below hb).more hb.size)
      have HRp : Hid (∀ w', Below w.heap.size w w' → Calls Try.prog 15 #[.agg #[.int .i64 id, .int .i64 bg, .slice A ws.length cap], .agg (twc o).toArray] w' fun e w'' => ∃ z : Tv, e = .returned (tval z) ∧ z.t = ⟨id, bg, putR (clean o) ws⟩ ∧ w''.ownsRow w'.heap.size 28 34 z.v z.t.ws.length (tws z.t.ws) ∧ Below w'.heap.size w' w'') := Lib.hid fun w' hb =>
        rput_any18 ⟨⟨id, bg, ws⟩, A, cap⟩ o w' (show ws.length ≤ 10000 by omega) HX.out.1.each HX.out.2.2 ((HX.out.1.rd.below hb).more hb.size)
      have HPs : Hid (∀ w', Below w.heap.size w w' → Calls Try.prog 16 #[.agg #[.int .i64 id, .int .i64 bg, .slice A ws.length cap]] w' fun e w'' => e = .returned (.int .i64 (cntW ws : Nat)) ∧ Below w'.heap.size w' w'') := Lib.hid fun w' hb =>
        puts_any ⟨⟨id, bg, ws⟩, A, cap⟩ w' (show ws.length ≤ 100000 by omega) HX.out.1.each ((HX.out.1.rd.below hb).more hb.size)
      have HEq := Lib.hid (fun (t1 t2 : Tn) (h1 : t1 = ⟨id, bg, putL (clean o) ws⟩) (h2 : t2 = ⟨id, bg, putR (clean o) ws⟩) => show t1 = t2 by rw [h1, h2, put_ins, putR_ins HRi.out.1])
      have HPin := Lib.hid (And.intro (fun (t1 : Tn) (h1 : t1 = ⟨id, bg, putL (clean o) ws⟩) => show TIn t1 by rw [h1, put_ins]; exact put_tin (by omega) HX.out.1.each (clean_in HX.out.2.2)) (fun (t1 : Tn) (h1 : t1 = ⟨id, bg, putR (clean o) ws⟩) => show TIn t1 by rw [h1, putR_ins HRi.out.1]; exact put_tin (by omega) HX.out.1.each (clean_in HX.out.2.2)))
      go_wp2_with fail
      refine (find_any ⟨⟨id, bg, ws⟩, A, cap⟩ b wr (show ws.length ≤ 100000 by omega) HX.out.1.each HRi.out.1 ((HX.out.1.rd.below HT4.out.2).more HT4.out.2.size)).mono ?_
      rintro e wf ⟨rfl, hb⟩
      have HTf := Lib.hid (HT4.out.on hb)
      clear hb c0' c1' c2'
      dsimp only
      rw [HF1.out]
      go_wp2_with (first
        | ((with_reducible refine wpList_wt_alloc (o := ⟨some 9, .alloc _, _, _, _, _⟩) rfl rfl ?_); intro wg0 xg0 Bg0 sg0)
        | ((with_reducible refine wpList_wt_store (o := ⟨none, .store _ (.tmp 9) _, _, _, _, _⟩) rfl _ _ rfl wf.heap.size a wt0 Ha.out wt0_in rfl rfl xg0 ?_); go_loud (intro wg xg gg _; have Kg := below_stored Bg0 gg Bg0.size (Nat.le_refl _); have HTg := Lib.hid (HTf.out.made Bg0 gg xg); obtain ⟨c0, c1, c2⟩ := HTg.out.cells (.tail _ (.tail _ (.head _))); clear xg0 Bg0 sg0 gg xg Kg; generalize wf.heap.size = b9 at *))        | fail)
      refine (rfind_any18 ⟨⟨id, bg, ws⟩, A, cap⟩ b wg (show ws.length ≤ 100000 by omega) HX.out.1.each ((HX.out.1.rd.below HTg.out.2).more HTg.out.2.size)).mono ?_
      rintro e wh ⟨rfl, hb⟩
      have HTh := Lib.hid (HTg.out.on hb)
      clear hb c0 c1 c2
      dsimp only
      rw [HF2.out]
      go_wp2_with (first
        | ((with_reducible refine wpList_wt_alloc (o := ⟨some 11, .alloc _, _, _, _, _⟩) rfl rfl ?_); intro w50 x50 B50 s50)
        | ((with_reducible refine wpList_wt_store (o := ⟨none, .store _ (.tmp 11) _, _, _, _, _⟩) rfl _ _ rfl wh.heap.size a wt0 Ha.out wt0_in rfl rfl x50 ?_); go_loud (intro w5 x5 g5 _; have K5 := below_stored B50 g5 B50.size (Nat.le_refl _); have HT5 := Lib.hid (HTh.out.made B50 g5 x5); clear x50 B50 s50 g5 x5 K5; generalize wh.heap.size = b11 at *))        | fail)
      have HSO := Lib.hid fun w' (h : TBx w w' [(b11, 28, twc a), (b9, 28, twc a), (b4, 28, twc o), (w.heap.size, 24, tnc ⟨⟨id, bg, ws⟩, A, cap⟩)]) => (⟨h.cells (.tail _ (.tail _ (.tail _ (.head _)))), (h.get (.tail _ (.tail _ (.head _)))).wtAll HX.out.2.2 HM.out, by rw [HLA.out]; exact (h.get (.tail _ (.head _))).wtAll Ha.out HM.out, by rw [HLA.out]; exact h.head.wtAll Ha.out HM.out⟩ : (w'.cell? ⟨w.heap.size, 0, none⟩ = some (.int .i64 id) ∧ w'.cell? ⟨w.heap.size, 1, none⟩ = some (.int .i64 bg) ∧ w'.cell? ⟨w.heap.size, 2, none⟩ = some (.slice A ws.length cap)) ∧ (loadCellsFrom ⟨b4, 0, none⟩ 0 m #[]).run Try.prog w' = .ok (twc o).toArray w' ∧ (loadCellsFrom ⟨b9, 0, none⟩ 0 m #[]).run Try.prog w' = .ok LA.toArray w' ∧ (loadCellsFrom ⟨b11, 0, none⟩ 0 m #[]).run Try.prog w' = .ok LA.toArray w')
      have HS0 := Lib.hid (HSO.out w5.drew HT5.out.drew)
      refine wp_region_heldT (fun w' => (w'.cell? ⟨w.heap.size, 0, none⟩ = some (.int .i64 id) ∧ w'.cell? ⟨w.heap.size, 1, none⟩ = some (.int .i64 bg) ∧ w'.cell? ⟨w.heap.size, 2, none⟩ = some (.slice A ws.length cap)) ∧ (loadCellsFrom ⟨b4, 0, none⟩ 0 m #[]).run Try.prog w' = .ok (twc o).toArray w' ∧ (loadCellsFrom ⟨b9, 0, none⟩ 0 m #[]).run Try.prog w' = .ok LA.toArray w' ∧ (loadCellsFrom ⟨b11, 0, none⟩ 0 m #[]).run Try.prog w' = .ok LA.toArray w') 23 (by kernel_rfl) (by kernel_rfl) ?_
      refine heldT_take (i := 0) (oi := ⟨some 49, .load _ _, _, _, _, _⟩) (v := ?va0) rfl (by kernel_rfl) (by decide) (by kernel_rfl) (by kernel_rfl) (fun _ _ _ h => h) (Or.inl ⟨by rfl, ?hya0⟩) HS0.out ?resta0
      case hya0 =>
        intro w hSw
        obtain ⟨⟨hSa, hSb, hSc⟩, hS1, hS2, hS3⟩ := hSw
        go_simp
        try with_reducible rfl
      try simp only [Act.put, List.setIfInBounds_toArray, List.set_cons_zero, List.set_cons_succ]
      refine heldT_take (i := 1) (oi := ⟨some 50, .load _ _, _, _, _, _⟩) (v := ?va1) rfl (by kernel_rfl) (by decide) (by kernel_rfl) (by kernel_rfl) (fun _ _ _ h => h) (Or.inl ⟨by rfl, ?hya1⟩) HS0.out ?resta1
      case hya1 =>
        intro w hSw
        obtain ⟨⟨hSa, hSb, hSc⟩, hS1, hS2, hS3⟩ := hSw
        go_simp
        try with_reducible rfl
      try simp only [Act.put, List.setIfInBounds_toArray, List.set_cons_zero, List.set_cons_succ]
      refine heldT_take (i := 3) (oi := ⟨some 52, .load _ _, _, _, _, _⟩) (v := ?va3) rfl (by kernel_rfl) (by decide) (by kernel_rfl) (by kernel_rfl) (fun _ _ _ h => h) (Or.inl ⟨by rfl, ?hya3⟩) HS0.out ?resta3
      case hya3 =>
        intro w hSw
        obtain ⟨⟨hSa, hSb, hSc⟩, hS1, hS2, hS3⟩ := hSw
        go_simp
        try with_reducible rfl
      try simp only [Act.put, List.setIfInBounds_toArray, List.set_cons_zero, List.set_cons_succ]
      refine heldT_take (i := 4) (oi := ⟨some 53, .load _ _, _, _, _, _⟩) (v := ?va4) rfl (by kernel_rfl) (by decide) (by kernel_rfl) (by kernel_rfl) (fun _ _ _ h => h) (Or.inl ⟨by rfl, ?hya4⟩) HS0.out ?resta4
      case hya4 =>
        intro w hSw
        obtain ⟨⟨hSa, hSb, hSc⟩, hS1, hS2, hS3⟩ := hSw
        go_simp
        try with_reducible rfl
      try simp only [Act.put, List.setIfInBounds_toArray, List.set_cons_zero, List.set_cons_succ]
      refine heldT_one (i := 2) (o := ⟨some 51, .call _, _, _, _, _⟩) rfl (by kernel_rfl) (by decide) (fun K hK => ?_)
      go_simp
      refine (HPut.out _ (bthen HT5.out.2 (Below.refl _ _).drew)).mono ?_
      rintro e w6 ⟨⟨tz1, A6, c6⟩, rfl, hz1, ho1, hb1⟩
      have HT6 := Lib.hid (And.intro (HT5.out.on (bthen (Below.refl _ _).drew hb1)) (And.intro hz1 ho1))
      have HS6 := Lib.hid (HSO.out _ HT6.out.1)
      clear hz1 ho1 hb1
      go_wp2_with fail
      refine hK.out _ _ (HS6.out) ?_
      clear hK K
      try simp only [Act.put, List.setIfInBounds_toArray, List.set_cons_zero, List.set_cons_succ]
      refine heldT_one (i := 5) (o := ⟨some 54, .call _, _, _, _, _⟩) rfl (by kernel_rfl) (by decide) (fun K hK => ?_)
      go_simp
      refine (HRp.out _ HT6.out.1.2).mono ?_
      rintro e w7 ⟨⟨tz2, A7, c7⟩, rfl, hz2, ho2, hb2⟩
      have HT7 := Lib.hid (And.intro (HT6.out.1.on hb2) (And.intro hz2 (And.intro (own_below HT6.out.2.2 hb2) ho2)))
      have HS7 := Lib.hid (HSO.out _ HT7.out.1)
      have hst := rsame_is ⟨tz1, A6, c6⟩ ⟨tz2, A7, c7⟩ w7 (HPin.out.1 tz1 HT6.out.2.1) (HPin.out.2 tz2 HT7.out.2.1) (Rd.own HT7.out.2.2.1) (Rd.own HT7.out.2.2.2)
      rw [tr_yes (HEq.out tz1 tz2 HT6.out.2.1 HT7.out.2.1)] at hst
      have HSt := Lib.hid hst
      clear hz2 ho2 hb2 hst
      go_wp2_with fail
      refine hK.out _ _ (HS7.out) ?_
      clear hK K
      try simp only [Act.put, List.setIfInBounds_toArray, List.set_cons_zero, List.set_cons_succ]
      refine heldT_one (i := 6) (o := ⟨some 55, .call _, _, _, _, _⟩) rfl (by kernel_rfl) (by decide) (fun K hK => ?_)
      go_simp
      refine (HSt.out).mono ?_
      rintro e w8 ⟨rfl, hb3⟩
      have HT8 := Lib.hid (HT7.out.1.on hb3)
      have HS8 := Lib.hid (HSO.out _ HT8.out)
      clear hb3
      go_wp2_with fail
      refine hK.out _ _ (HS8.out) ?_
      clear hK K
      try simp only [Act.put, List.setIfInBounds_toArray, List.set_cons_zero, List.set_cons_succ]
      refine heldT_take (i := 7) (oi := ⟨some 56, .move _, _, _, _, _⟩) (v := ?va7) rfl (by kernel_rfl) (by decide) (by kernel_rfl) (by kernel_rfl) (fun _ _ _ h => h) (Or.inl ⟨by rfl, ?hya7⟩) HS8.out ?resta7
      case hya7 =>
        intro w hSw
        obtain ⟨⟨hSa, hSb, hSc⟩, hS1, hS2, hS3⟩ := hSw
        go_simp
        try with_reducible rfl
      try simp only [Act.put, List.setIfInBounds_toArray, List.set_cons_zero, List.set_cons_succ]
      refine heldT_take (i := 8) (oi := ⟨some 57, .load _ _, _, _, _, _⟩) (v := ?va8) rfl (by kernel_rfl) (by decide) (by kernel_rfl) (by kernel_rfl) (fun _ _ _ h => h) (Or.inl ⟨by rfl, ?hya8⟩) HS8.out ?resta8
      case hya8 =>
        intro w hSw
        obtain ⟨⟨hSa, hSb, hSc⟩, hS1, hS2, hS3⟩ := hSw
        go_simp
        try with_reducible rfl
      try simp only [Act.put, List.setIfInBounds_toArray, List.set_cons_zero, List.set_cons_succ]
      refine heldT_take (i := 9) (oi := ⟨some 58, .load _ _, _, _, _, _⟩) (v := ?va9) rfl (by kernel_rfl) (by decide) (by kernel_rfl) (by kernel_rfl) (fun _ _ _ h => h) (Or.inl ⟨by rfl, ?hya9⟩) HS8.out ?resta9
      case hya9 =>
        intro w hSw
        obtain ⟨⟨hSa, hSb, hSc⟩, hS1, hS2, hS3⟩ := hSw
        go_simp
        try with_reducible rfl
      try simp only [Act.put, List.setIfInBounds_toArray, List.set_cons_zero, List.set_cons_succ]
      refine heldT_take (i := 10) (oi := ⟨some 59, .binOp _ _ _ _ _, _, _, _, _⟩) (v := ?va10) rfl (by kernel_rfl) (by decide) (by kernel_rfl) (by kernel_rfl) (fun _ _ _ h => h) (Or.inl ⟨by rfl, ?hya10⟩) HS8.out ?resta10
      case hya10 =>
        intro w hSw
        obtain ⟨⟨hSa, hSb, hSc⟩, hS1, hS2, hS3⟩ := hSw
        go_simp
        try with_reducible rfl
      try simp only [Act.put, List.setIfInBounds_toArray, List.set_cons_zero, List.set_cons_succ]
      refine heldT_take (i := 11) (oi := ⟨some 60, .pick _ _ _, _, _, _, _⟩) (v := ?va11) rfl (by kernel_rfl) (by decide) (by kernel_rfl) (by kernel_rfl) (fun _ _ _ h => h) (Or.inl ⟨by rfl, ?hya11⟩) HS8.out ?resta11
      case hya11 =>
        intro w hSw
        obtain ⟨⟨hSa, hSb, hSc⟩, hS1, hS2, hS3⟩ := hSw
        go_simp
        try with_reducible rfl
      try simp only [Act.put, List.setIfInBounds_toArray, List.set_cons_zero, List.set_cons_succ]
      refine heldT_take (i := 12) (oi := ⟨some 61, .move _, _, _, _, _⟩) (v := ?va12) rfl (by kernel_rfl) (by decide) (by kernel_rfl) (by kernel_rfl) (fun _ _ _ h => h) (Or.inl ⟨by rfl, ?hya12⟩) HS8.out ?resta12
      case hya12 =>
        intro w hSw
        obtain ⟨⟨hSa, hSb, hSc⟩, hS1, hS2, hS3⟩ := hSw
        go_simp
        try with_reducible rfl
      try simp only [Act.put, List.setIfInBounds_toArray, List.set_cons_zero, List.set_cons_succ]
      refine heldT_take (i := 13) (oi := ⟨some 62, .move _, _, _, _, _⟩) (v := ?va13) rfl (by kernel_rfl) (by decide) (by kernel_rfl) (by kernel_rfl) (fun _ _ _ h => h) (Or.inl ⟨by rfl, ?hya13⟩) HS8.out ?resta13
      case hya13 =>
        intro w hSw
        obtain ⟨⟨hSa, hSb, hSc⟩, hS1, hS2, hS3⟩ := hSw
        go_simp
        try with_reducible rfl
      try simp only [Act.put, List.setIfInBounds_toArray, List.set_cons_zero, List.set_cons_succ]
      refine heldT_take (i := 14) (oi := ⟨some 63, .move _, _, _, _, _⟩) (v := ?va14) rfl (by kernel_rfl) (by decide) (by kernel_rfl) (by kernel_rfl) (fun _ _ _ h => h) (Or.inl ⟨by rfl, ?hya14⟩) HS8.out ?resta14
      case hya14 =>
        intro w hSw
        obtain ⟨⟨hSa, hSb, hSc⟩, hS1, hS2, hS3⟩ := hSw
        go_simp
        try with_reducible rfl
      try simp only [Act.put, List.setIfInBounds_toArray, List.set_cons_zero, List.set_cons_succ]
      refine heldT_take (i := 15) (oi := ⟨some 64, .binOp _ _ _ _ _, _, _, _, _⟩) (v := ?va15) rfl (by kernel_rfl) (by decide) (by kernel_rfl) (by kernel_rfl) (fun _ _ _ h => h) (Or.inl ⟨by rfl, ?hya15⟩) HS8.out ?resta15
      case hya15 =>
        intro w hSw
        obtain ⟨⟨hSa, hSb, hSc⟩, hS1, hS2, hS3⟩ := hSw
        go_simp
        try with_reducible rfl
      try simp only [Act.put, List.setIfInBounds_toArray, List.set_cons_zero, List.set_cons_succ]
      refine heldT_take (i := 16) (oi := ⟨some 65, .pick _ _ _, _, _, _, _⟩) (v := ?va16) rfl (by kernel_rfl) (by decide) (by kernel_rfl) (by kernel_rfl) (fun _ _ _ h => h) (Or.inl ⟨by rfl, ?hya16⟩) HS8.out ?resta16
      case hya16 =>
        intro w hSw
        obtain ⟨⟨hSa, hSb, hSc⟩, hS1, hS2, hS3⟩ := hSw
        go_simp
        try with_reducible rfl
      try simp only [Act.put, List.setIfInBounds_toArray, List.set_cons_zero, List.set_cons_succ]
      refine heldT_take (i := 17) (oi := ⟨some 66, .move _, _, _, _, _⟩) (v := ?va17) rfl (by kernel_rfl) (by decide) (by kernel_rfl) (by kernel_rfl) (fun _ _ _ h => h) (Or.inl ⟨by rfl, ?hya17⟩) HS8.out ?resta17
      case hya17 =>
        intro w hSw
        obtain ⟨⟨hSa, hSb, hSc⟩, hS1, hS2, hS3⟩ := hSw
        go_simp
        try with_reducible rfl
      try simp only [Act.put, List.setIfInBounds_toArray, List.set_cons_zero, List.set_cons_succ]
      refine heldT_take (i := 18) (oi := ⟨some 67, .load _ _, _, _, _, _⟩) (v := ?va18) rfl (by kernel_rfl) (by decide) (by kernel_rfl) (by kernel_rfl) (fun _ _ _ h => h) (Or.inl ⟨by rfl, ?hya18⟩) HS8.out ?resta18
      case hya18 =>
        intro w hSw
        obtain ⟨⟨hSa, hSb, hSc⟩, hS1, hS2, hS3⟩ := hSw
        go_simp
        try with_reducible rfl
      try simp only [Act.put, List.setIfInBounds_toArray, List.set_cons_zero, List.set_cons_succ]
      refine heldT_take (i := 20) (oi := ⟨some 69, .move _, _, _, _, _⟩) (v := ?va20) rfl (by kernel_rfl) (by decide) (by kernel_rfl) (by kernel_rfl) (fun _ _ _ h => h) (Or.inl ⟨by rfl, ?hya20⟩) HS8.out ?resta20
      case hya20 =>
        intro w hSw
        obtain ⟨⟨hSa, hSb, hSc⟩, hS1, hS2, hS3⟩ := hSw
        go_simp
        try with_reducible rfl
      try simp only [Act.put, List.setIfInBounds_toArray, List.set_cons_zero, List.set_cons_succ]
      refine heldT_one (i := 19) (o := ⟨some 68, .call _, _, _, _, _⟩) rfl (by kernel_rfl) (by decide) (fun K hK => ?_)
      go_simp
      refine (HPs.out _ HT8.out.2).mono ?_
      rintro e w9 ⟨rfl, hb4⟩
      have HT9 := Lib.hid (HT8.out.on hb4)
      have HS9 := Lib.hid (HSO.out _ HT9.out)
      clear hb4
      go_wp2_with fail
      refine hK.out _ _ (HS9.out) ?_
      clear hK K
      try simp only [Act.put, List.setIfInBounds_toArray, List.set_cons_zero, List.set_cons_succ]
      refine heldT_take (i := 21) (oi := ⟨some 70, .binOp _ _ _ _ _, _, _, _, _⟩) (v := ?va21) rfl (by kernel_rfl) (by decide) (by kernel_rfl) (by kernel_rfl) (fun _ _ _ h => h) (Or.inl ⟨by rfl, ?hya21⟩) HS9.out ?resta21
      case hya21 =>
        intro w hSw
        obtain ⟨⟨hSa, hSb, hSc⟩, hS1, hS2, hS3⟩ := hSw
        go_simp
        try with_reducible rfl
      try simp only [Act.put, List.setIfInBounds_toArray, List.set_cons_zero, List.set_cons_succ]
      refine heldT_take (i := 22) (oi := ⟨some 71, .pick _ _ _, _, _, _, _⟩) (v := ?va22) rfl (by kernel_rfl) (by decide) (by kernel_rfl) (by kernel_rfl) (fun _ _ _ h => h) (Or.inl ⟨by rfl, ?hya22⟩) HS9.out ?resta22
      case hya22 =>
        intro w hSw
        obtain ⟨⟨hSa, hSb, hSc⟩, hS1, hS2, hS3⟩ := hSw
        go_simp
        try with_reducible rfl
      try simp only [Act.put, List.setIfInBounds_toArray, List.set_cons_zero, List.set_cons_succ]
      refine heldT_done (by kernel_rfl) ?_
      go_wp2
      go_ret
      exact ⟨rfl, HT9.out.2⟩
end Go.Proofs.Ytakpeboicmgnpaa

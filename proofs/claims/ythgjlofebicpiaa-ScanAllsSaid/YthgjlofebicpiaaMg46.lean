/-
  RecN GeomF
-/
import Derived.Test.YthgjlofebicpiaaMg45
import Derived.Test.YthgjlofebicpiaaMg14
import Derived.Test.YthgjlofebicpiaaMg37
import Derived.Test.YthgjlofebicpiaaMg20
/-
  The document's answers for layer 6: Read.
-/
namespace Go.Proofs.Ythgjlofebicpiaa
open Go.RowKit Word Crc Rec
set_option linter.unusedVariables false

theorem rcs_set (r : Rc) (k : Nat) (v : Int) : (rcs r).set (5 + k) (.int .u8 v) = rcs { r with data := r.data.set k v } := by
  rw [show 5 + k = k + 1 + 1 + 1 + 1 + 1 by omega]
  simp [rcs, bs_set]
theorem mix32_in {D : List Int} (hD : D.length = 32 ∧ octets D) (n : Nat) (hn : n ≤ 32) : (mix D z32 n).length = 32 ∧ octets (mix D z32 n) := by
  refine ⟨(mix_length (by rw [hD.1]; rfl) hn).trans rfl, ?_⟩
  unfold mix
  refine octets_append (fun z hz => hD.2 z (List.mem_of_mem_take hz)) (fun z hz => ?_)
  have := List.mem_of_mem_drop hz
  simp [z32] at this
  omega

set_option maxRecDepth 100000 in
set_option maxHeartbeats 4000000 in
theorem rread_any (p : List Int) (w : World) (hl : p.length = 64) (hp : octets p) :
    Calls Try.prog 30 #[.agg (bs p).toArray] w fun e w' => e = .returned (.tuple #[.agg (rcs (rreadS p).1).toArray, .int .i64 (rreadS p).2]) ∧ Below w.heap.size w w' := by
  obtain ⟨m, hm, hsz⟩ := big_size (P := Try.prog) (t := 62) (s := 64) (by kernel_rfl)
  obtain ⟨mr, hmr, hszr⟩ := big_size (P := Try.prog) (t := 50) (s := 37) (by kernel_rfl)
  have hm0 : ¬ m = 0 := by omega
  have hmr0 : ¬ mr = 0 := by omega
  have HP := Lib.hid (And.intro hl hp)
  have HM := Lib.hid (And.intro hm hmr)
  have HSu := Lib.hid fun w' => rsummed_any p w' hl hp
  have LP := Lib.hid fun (W : World) (L : RdSt w W p) => big_load0 Try.prog w.heap.size 0 (bs p) m (by rw [bs_length, HP.out.1, HM.out.1]) W L.1.range0
  have HD := Lib.hid (show ((p.drop 25).take 32).length = 32 ∧ octets ((p.drop 25).take 32) from taken_in hl hp)
  clear hm hmr hl hp
  go_enter Try.func30, Try.ntmps30
  go_wp2_with (first
    | ((with_reducible refine wpList_pg_box (o := ⟨some 1, .box _ _, _, _, _, _⟩) rfl _ rfl p rfl ?_); intro w1 x0 hB1 hs1)
    | ((with_reducible refine wpList_rc_alloc (o := ⟨some 2, .alloc _, _, _, _, _⟩) rfl rfl ?_); intro w2 x1 hB2 hs2; have L := RdSt.start x0 hB1 hs1 x1 hB2 hs2; rw [hs1]; clear hs1 hs2 x0 x1 hB1 hB2; have hld := LP.out _ L)
    | fail)
  refine (HSu.out _).mono ?_
  rintro e w3 ⟨rfl, hb3⟩
  replace L := L.below hb3
  clear hb3 hld HSu
  cases hri : rightB p with
  | false =>
    have HS := Lib.hid (show rreadS p = (rc0, 8) by unfold rreadS; rw [if_pos hri])
    have HX := Lib.hid L.2.1
    have HB := Lib.hid L.2.2
    clear hri L
    go_wp2_with (first
      | (with_reducible refine wpList_rc_zero (o := ⟨some 9, .build _ _, _, _, _, _⟩) rfl rfl ?_)
      | ((with_reducible refine wpList_rc_store (o := ⟨none, .store _ _ _, _, _, _, _⟩) rfl _ _ rfl (w.heap.size + 1) rc0 rc0 rc0_in rc0_in rfl rfl HX.out ?_); intro w9 hb9 hg9 _)
      | fail)
    have hldF := big_load0 Try.prog (w.heap.size + 1) 0 (rcs rc0) mr (by rw [rcs_length rc0_in.1, HM.out.2]) _ hb9.range0
    generalize hR : rcs rc0 = R at hldF ⊢
    exact bodyPost_ret (v := .tuple #[.agg R.toArray, .int .i64 8]) (by simp [results, Try.results30, go_sem, hszr, hldF]) rfl ⟨by rw [HS.out, hR], below_stored HB.out.1 hg9 HB.out.1.size (by omega)⟩
  | true =>
    have HS' := Lib.hid (show rreadS p = if okB (rtaken p) = true ∧ p.getD 57 0 = 0 ∧ p.getD 58 0 = 0 ∧ p.getD 59 0 = 0 then (rtaken p, 0) else (rc0, 7) by unfold rreadS; rw [if_neg (by rw [hri]; simp)])
    have HQ := Lib.hid fun w' => rright6_any (rtaken p) w' HD.out
    have HT := Lib.hid (show rtaken p = ⟨p.getD 0 0, hi (get p 1 8), hi (get p 9 8), hi (get p 17 4), hi (get p 21 4), (p.drop 25).take 32⟩ from rfl)
    have G1 := Lib.hid fun w' => (rhigh_any p 1 8 w' HP.out.1 HP.out.2 (by omega) (by omega) (by omega) : Calls Try.prog 57 #[.agg (bs p).toArray, .int .i64 1, .int .i64 8] w' _)
    have G2 := Lib.hid fun w' => (rhigh_any p 9 8 w' HP.out.1 HP.out.2 (by omega) (by omega) (by omega) : Calls Try.prog 57 #[.agg (bs p).toArray, .int .i64 9, .int .i64 8] w' _)
    have G3 := Lib.hid fun w' => (rhigh_any p 17 4 w' HP.out.1 HP.out.2 (by omega) (by omega) (by omega) : Calls Try.prog 57 #[.agg (bs p).toArray, .int .i64 17, .int .i64 4] w' _)
    have G4 := Lib.hid fun w' => (rhigh_any p 21 4 w' HP.out.1 HP.out.2 (by omega) (by omega) (by omega) : Calls Try.prog 57 #[.agg (bs p).toArray, .int .i64 21, .int .i64 4] w' _)
    have h0 := octets_getD HP.out.2 0
    have h00 := h0.1
    have h01 := h0.2
    clear hri h0
    generalize rtaken p = tk at *
    generalize hp0 : p.getD 0 0 = p0 at *
    have HP0 := Lib.hid hp0
    clear hp0
    generalize hi (get p 1 8) = v1 at *
    generalize hi (get p 9 8) = v2 at *
    generalize hi (get p 17 4) = v3 at *
    generalize hi (get p 21 4) = v4 at *
    generalize hDp : (p.drop 25).take 32 = D at *
    have HDp := Lib.hid hDp
    have HTT := HT
    clear hDp
    go_wp2_with fail
    have HS0 := Lib.hid L
    refine wp_region_alloc (fun w' => RdSt w w' p) 12 50 (rcs rc0) 4 ?ot1 ?hot1 ?hop1 ?hog1 ?hod1 ?hz1 ?hm1 ?hB1 ?hSB1 ?hS1 ?h1
    case hot1 => exact rfl
    case hop1 => exact rfl
    case hog1 => exact rfl
    case hod1 => exact rfl
    case hz1 => exact zero_rec
    case hm1 => kernel_rfl
    case hB1 => kernel_rfl
    case hSB1 => exact fun _ _ h hb => h.below hb
    case hS1 => exact L.drew
    have hSd : RdSt w w3.drew p := L.drew
    clear L
    simp only [List.take_succ_cons, List.take_zero, List.drop_succ_cons, List.drop_zero]
    try simp only [Act.put]
    refine wpR_take 4 ?hp2 w3.drew ?hw2 ?h2
    case hp2 => kernel_rfl
    case hw2 => exact hSd
    simp only [List.take_succ_cons, List.take_zero, List.drop_succ_cons, List.drop_zero]
    intro X hX f hf
    have c0 : ∀ x, (f x).cell? ⟨w.heap.size, 0, none⟩ = some (.int .u8 p0) := fun x => by rw [← HP0.out]; exact ((hf x).1.cell 0).trans (bs_get (k := 0) (by rw [HP.out.1]; decide))
    have cl := fun x => LP.out _ (hf x)
    clear hf
    repeat (go_big_quiet_step (fail))
    refine wpQuiet_nil ?_
    clear c0 cl hX
    clear f
    refine wpR_call ?hgd3 57 ?xs3 ?ts3 ?ho3 #[.agg (bs p).toArray, .int .i64 1, .int .i64 8] ?hx3 ?hE3 (.int .i64 v1) ?hc3 ?h3
    case hgd3 => exact rfl
    case ho3 => exact rfl
    case hx3 => simp [Act.eval]
    case hE3 => exact fun w => enters_in Try.func57 (by kernel_rfl) rfl _ w
    case hc3 => exact fun w _ => G1.out w
    simp only [Act.put, List.setIfInBounds_toArray, List.set_cons_succ, List.set_cons_zero]
    refine wpR_take 1 ?hp4 w3.drew ?hw4 ?h4
    case hp4 => kernel_rfl
    case hw4 => exact hSd
    simp only [List.take_succ_cons, List.take_zero, List.drop_succ_cons, List.drop_zero]
    intro X hX f hf
    have cl := fun x => LP.out _ (hf x)
    clear hf
    repeat (go_big_quiet_step (fail))
    refine wpQuiet_nil ?_
    clear cl hX
    clear f
    refine wpR_call ?hgd5 57 ?xs5 ?ts5 ?ho5 #[.agg (bs p).toArray, .int .i64 9, .int .i64 8] ?hx5 ?hE5 (.int .i64 v2) ?hc5 ?h5
    case hgd5 => exact rfl
    case ho5 => exact rfl
    case hx5 => simp [Act.eval]
    case hE5 => exact fun w => enters_in Try.func57 (by kernel_rfl) rfl _ w
    case hc5 => exact fun w _ => G2.out w
    simp only [Act.put, List.setIfInBounds_toArray, List.set_cons_succ, List.set_cons_zero]
    refine wpR_take 1 ?hp6 w3.drew ?hw6 ?h6
    case hp6 => kernel_rfl
    case hw6 => exact hSd
    simp only [List.take_succ_cons, List.take_zero, List.drop_succ_cons, List.drop_zero]
    intro X hX f hf
    have cl := fun x => LP.out _ (hf x)
    clear hf
    repeat (go_big_quiet_step (fail))
    refine wpQuiet_nil ?_
    clear cl hX
    clear f
    refine wpR_call ?hgd7 57 ?xs7 ?ts7 ?ho7 #[.agg (bs p).toArray, .int .i64 17, .int .i64 4] ?hx7 ?hE7 (.int .i64 v3) ?hc7 ?h7
    case hgd7 => exact rfl
    case ho7 => exact rfl
    case hx7 => simp [Act.eval]
    case hE7 => exact fun w => enters_in Try.func57 (by kernel_rfl) rfl _ w
    case hc7 => exact fun w _ => G3.out w
    simp only [Act.put, List.setIfInBounds_toArray, List.set_cons_succ, List.set_cons_zero]
    refine wpR_take 1 ?hp8 w3.drew ?hw8 ?h8
    case hp8 => kernel_rfl
    case hw8 => exact hSd
    simp only [List.take_succ_cons, List.take_zero, List.drop_succ_cons, List.drop_zero]
    intro X hX f hf
    have cl := fun x => LP.out _ (hf x)
    clear hf
    repeat (go_big_quiet_step (fail))
    refine wpQuiet_nil ?_
    clear cl hX
    clear f
    refine wpR_call ?hgd9 57 ?xs9 ?ts9 ?ho9 #[.agg (bs p).toArray, .int .i64 21, .int .i64 4] ?hx9 ?hE9 (.int .i64 v4) ?hc9 ?h9
    case hgd9 => exact rfl
    case ho9 => exact rfl
    case hx9 => simp [Act.eval]
    case hE9 => exact fun w => enters_in Try.func57 (by kernel_rfl) rfl _ w
    case hc9 => exact fun w _ => G4.out w
    simp only [Act.put, List.setIfInBounds_toArray, List.set_cons_succ, List.set_cons_zero]
    refine wpR_val ?hgdb (.agg (rcs ⟨p0, v1, v2, v3, v4, z32⟩).toArray) ?heb ?hb
    case hgdb => exact rfl
    case heb =>
      intro w'
      have e := run_build_rec5 w' p0 v1 v2 v3 v4
      simp only [execOp, List.map_toArray, List.map_cons, List.map_nil, Act.eval]
      simp [e]
    rintro b w' ⟨w0, hw0, rfl⟩ hw' hb'
    have hb2 := hw0.2.2.2
    clear hw0
    generalize w0.heap.size = b at hb' hb2 ⊢
    have H5 := Lib.hid (show In ⟨p0, v1, v2, v3, v4, z32⟩ from rc0_in)
    have HW := Lib.hid hw'
    simp only [Act.put, List.setIfInBounds_toArray, List.set_cons_succ, List.set_cons_zero]
    clear G1 G2 G3 G4 HT hSd h00 h01 hw'
    go_wp2_with (first
      | ((with_reducible refine wpList_rc_store (o := ⟨none, .store _ _ _, _, _, _, _⟩) rfl _ _ rfl b ⟨p0, v1, v2, v3, v4, z32⟩ rc0 H5.out rc0_in rfl rfl hb' ?_); intro w6 x6 hg6 _)
      | fail)
    have HL := Lib.hid (show RdSt2 w w6 p b ⟨p0, v1, v2, v3, v4, z32⟩ from ⟨⟨HW.out.1.grown hg6 (by omega), HW.out.2.1.grown hg6 (by omega), below_stored HW.out.2.2.1 hg6 HW.out.2.2.1.size (by omega), Nat.le_trans HW.out.2.2.2 hg6.size⟩, x6, hb2⟩)
    clear hb' x6 hg6 HW H5
    have HTk := Lib.hid (show tk = ⟨p0, v1, v2, v3, v4, D⟩ from HTT.out)
    -- the data
    go_loopw [5] (fun i wr => ∃ n : Nat, n ≤ 32 ∧ i = .int .i64 n ∧ RdSt2 w wr p b ⟨p0, v1, v2, v3, v4, mix D z32 n⟩) (fun i _ => 32 - (intOf i).toNat)
    case atStart => exact ⟨0, by omega, rfl, by rw [mix_zero]; exact HL.out⟩
    case round =>
      clear HL
      obtain ⟨n, hn1, rfl, L⟩ := hrel
      have hb2 := L.2.2
      by_cases hlt : n < 32
      · have hml := (mix32_in HD.out n hn1).1
        have c1 : wr.cell? ⟨w.heap.size, 25 + n, none⟩ = some (.int .u8 (D.getD n 0)) := by
          rw [← HDp.out]
          refine (L.1.1.cell (25 + n)).trans ((bs_get (by rw [HP.out.1]; omega)).trans ?_)
          simp [List.getD_eq_getElem?_getD, hlt, List.getElem?_drop]
        have c0 := (L.2.1.cell (5 + n)).trans ((rcs_data _ n).trans (bs_get (by rw [hml]; exact hlt)))
        have f0 := L.2.1.frozen (5 + n)
        have HX := Lib.hid (mix_set (S := D) (p := z32) (n := n) (by rw [HD.out.1]; rfl) hlt)
        generalize D.getD n 0 = s at c1 HX
        generalize (mix D z32 n).getD n 0 = s0 at c0
        have HH := Lib.hid L
        clear hml L
        go_wp2
        go_roundw
        case rel =>
          have e : ∀ x, x ≠ b → (wr.setCell ⟨b, 5 + n, none⟩ (.int .u8 s)).heap[x]? = wr.heap[x]? := fun x hx => heap_setCell_other _ _ _ _ hx
          obtain ⟨L1, L2, L3⟩ := HH.out
          refine ⟨n + 1, by omega, by go_num, ⟨L1.1.same (e _ (by omega)), L1.2.1.same (e _ (by omega)), L1.2.2.1.setCell (by show w.heap.size ≤ b; omega) _, by have := L1.2.2.2; simpa [World.setCell] using this⟩, ?_, L3⟩
          have := L2.set (5 + n) (.int .u8 s)
          rw [rcs_set] at this
          rw [← HX.out]
          exact this
        case measure => simp [intOf]; omega
      · obtain rfl : n = 32 := by omega
        rw [mix_all (S := D) (p := z32) (n := 32) (by rw [HD.out.1]; rfl) rfl, ← HTk.out] at L
        have HI := Lib.hid (show In tk by rw [HTk.out]; exact HD.out)
        have hld4 := big_load0 Try.prog b 0 (rcs tk) mr (by rw [rcs_length HI.out.1, HM.out.2]) wr L.2.1.range0
        have HL := Lib.hid L
        clear L HTk HTT HDp HP0 hb2
        go_wp2_with fail
        refine (HQ.out _).mono ?_
        rintro e w7 ⟨rfl, hb7⟩
        have L := HL.out.below hb7
        have HX := Lib.hid L.1.2.1
        have HB := Lib.hid L.1.2.2
        have c57 := (L.1.1.cell 57).trans (bs_get (by rw [HP.out.1]; decide))
        have c58 := (L.1.1.cell 58).trans (bs_get (by rw [HP.out.1]; decide))
        have c59 := (L.1.1.cell 59).trans (bs_get (by rw [HP.out.1]; decide))
        have hld4' := big_load0 Try.prog b 0 (rcs tk) mr (by rw [rcs_length HI.out.1, HM.out.2]) w7 L.2.1.range0
        clear L hb7 hld4 HL HQ
        generalize p.getD 57 0 = x7 at *
        generalize p.getD 58 0 = x8 at *
        generalize p.getD 59 0 = x9 at *
        generalize hokb : okB tk = ok at *
        cases ok with
        | false =>
          have HS := Lib.hid (show rreadS p = (rc0, 7) by rw [HS'.out, if_neg]; rintro ⟨h, _⟩; cases h)
          clear HS'
          go_wp2_with (first
            | (with_reducible refine wpList_rc_zero (o := ⟨some 51, .build _ _, _, _, _, _⟩) rfl rfl ?_)
            | ((with_reducible refine wpList_rc_store (o := ⟨none, .store _ _ _, _, _, _, _⟩) rfl _ _ rfl (w.heap.size + 1) rc0 rc0 rc0_in rc0_in rfl rfl HX.out ?_); intro w9 hb9 hg9 _)
            | fail)
          have hldF := big_load0 Try.prog (w.heap.size + 1) 0 (rcs rc0) mr (by rw [rcs_length rc0_in.1, HM.out.2]) _ hb9.range0
          generalize hR : rcs rc0 = R at hldF ⊢
          exact bodyPost_ret (v := .tuple #[.agg R.toArray, .int .i64 7]) (by simp [results, Try.results30, go_sem, hszr, hldF]) rfl ⟨by rw [HS.out, hR], below_stored HB.out.1 hg9 HB.out.1.size (by omega)⟩
        | true =>
          by_cases h7 : x7 = 0
          · subst h7
            by_cases h8 : x8 = 0
            · subst h8
              by_cases h9 : x9 = 0
              · subst h9
                have HS := Lib.hid (show rreadS p = (tk, 0) by rw [HS'.out, if_pos ⟨rfl, rfl, rfl, rfl⟩])
                clear HS'
                go_wp2_with (first
                  | ((with_reducible refine wpList_rc_store (o := ⟨none, .store _ _ _, _, _, _, _⟩) rfl _ _ rfl (w.heap.size + 1) tk rc0 HI.out rc0_in rfl rfl HX.out ?_); intro w9 hb9 hg9 _)
                  | fail)
                have hldF := big_load0 Try.prog (w.heap.size + 1) 0 (rcs tk) mr (by rw [rcs_length HI.out.1, HM.out.2]) _ hb9.range0
                generalize hR : rcs tk = R at hldF ⊢
                exact bodyPost_ret (v := .tuple #[.agg R.toArray, .int .i64 0]) (by simp [results, Try.results30, go_sem, hszr, hldF]) rfl ⟨by rw [HS.out, hR], below_stored HB.out.1 hg9 HB.out.1.size (by omega)⟩
              · have hq : (x9 != 0) = true := by simp [h9]
                have HS := Lib.hid (show rreadS p = (rc0, 7) by rw [HS'.out, if_neg]; rintro ⟨_, _, _, h⟩; exact h9 h)
                clear HS'
                go_wp2_with (first
                  | (with_reducible refine wpList_rc_zero (o := ⟨some 51, .build _ _, _, _, _, _⟩) rfl rfl ?_)
                  | ((with_reducible refine wpList_rc_store (o := ⟨none, .store _ _ _, _, _, _, _⟩) rfl _ _ rfl (w.heap.size + 1) rc0 rc0 rc0_in rc0_in rfl rfl HX.out ?_); intro w9 hb9 hg9 _)
                  | fail)
                have hldF := big_load0 Try.prog (w.heap.size + 1) 0 (rcs rc0) mr (by rw [rcs_length rc0_in.1, HM.out.2]) _ hb9.range0
                generalize hR : rcs rc0 = R at hldF ⊢
                exact bodyPost_ret (v := .tuple #[.agg R.toArray, .int .i64 7]) (by simp [results, Try.results30, go_sem, hszr, hldF]) rfl ⟨by rw [HS.out, hR], below_stored HB.out.1 hg9 HB.out.1.size (by omega)⟩
            · have hq : (x8 != 0) = true := by simp [h8]
              have HS := Lib.hid (show rreadS p = (rc0, 7) by rw [HS'.out, if_neg]; rintro ⟨_, _, h, _⟩; exact h8 h)
              clear HS'
              go_wp2_with (first
                | (with_reducible refine wpList_rc_zero (o := ⟨some 51, .build _ _, _, _, _, _⟩) rfl rfl ?_)
                | ((with_reducible refine wpList_rc_store (o := ⟨none, .store _ _ _, _, _, _, _⟩) rfl _ _ rfl (w.heap.size + 1) rc0 rc0 rc0_in rc0_in rfl rfl HX.out ?_); intro w9 hb9 hg9 _)
                | fail)
              have hldF := big_load0 Try.prog (w.heap.size + 1) 0 (rcs rc0) mr (by rw [rcs_length rc0_in.1, HM.out.2]) _ hb9.range0
              generalize hR : rcs rc0 = R at hldF ⊢
              exact bodyPost_ret (v := .tuple #[.agg R.toArray, .int .i64 7]) (by simp [results, Try.results30, go_sem, hszr, hldF]) rfl ⟨by rw [HS.out, hR], below_stored HB.out.1 hg9 HB.out.1.size (by omega)⟩
          · have hq : (x7 != 0) = true := by simp [h7]
            have HS := Lib.hid (show rreadS p = (rc0, 7) by rw [HS'.out, if_neg]; rintro ⟨_, h, _⟩; exact h7 h)
            clear HS'
            go_wp2_with (first
              | (with_reducible refine wpList_rc_zero (o := ⟨some 51, .build _ _, _, _, _, _⟩) rfl rfl ?_)
              | ((with_reducible refine wpList_rc_store (o := ⟨none, .store _ _ _, _, _, _, _⟩) rfl _ _ rfl (w.heap.size + 1) rc0 rc0 rc0_in rc0_in rfl rfl HX.out ?_); intro w9 hb9 hg9 _)
              | fail)
            have hldF := big_load0 Try.prog (w.heap.size + 1) 0 (rcs rc0) mr (by rw [rcs_length rc0_in.1, HM.out.2]) _ hb9.range0
            generalize hR : rcs rc0 = R at hldF ⊢
            exact bodyPost_ret (v := .tuple #[.agg R.toArray, .int .i64 7]) (by simp [results, Try.results30, go_sem, hszr, hldF]) rfl ⟨by rw [HS.out, hR], below_stored HB.out.1 hg9 HB.out.1.size (by omega)⟩
end Go.Proofs.Ythgjlofebicpiaa

/-
  What the document's answers for package geom do: At, Num.
-/
namespace Go.Proofs.Ythgjlofebicpiaa
open Go.RowKit Geom
set_option linter.unusedVariables false

theorem off_by (n k size : Int) : n - (k + 1) * size = n - k * size - size := by rw [Int.add_mul, Int.one_mul]; omega

/-- the place is not among the first k zones -/
def Not (conv zone size off k : Int) : Prop := ¬ (conv ≤ zone ∧ zone < conv + k ∧ 0 ≤ off ∧ off < size)
/-- nor among the first j sectors of the next one -/
def NotIn (conv zone off k j : Int) : Prop := ¬ (zone = conv + k ∧ 0 ≤ off ∧ off < j)

set_option maxHeartbeats 1000000 in
theorem rnum_any (conv soft seq size opn zone off : Int) (w : World) (H : Some conv seq size) :
    Calls Try.prog 31 #[.agg #[.int .i64 conv, .int .i64 soft, .int .i64 seq, .int .i64 size, .int .i64 opn], .agg #[.int .i64 zone, .int .i64 off]] w fun e w' => e = .returned (.int .i64 (num conv seq size zone off)) ∧ Below w.heap.size w w' := by
  have h0 := (Two.new w conv soft seq size opn zone off 23 68).2.2.2.2.2.2.2.2
  obtain ⟨q1, q2, q3, q4, q5⟩ := H
  have HK := Lib.hid (fun (k : Int) (h : 0 ≤ k) (h2 : k ≤ seq) => mul_in h (show k ≤ 64 by omega) (show 0 ≤ size by omega) q5)
  go_enter Try.func31, Try.ntmps31
  go_wp2
  go_loop [5, 6, 7] (fun n z o => ∃ k : Int, 0 ≤ k ∧ k ≤ seq ∧ Not conv zone size off k ∧ n = .int .i64 (k * size) ∧ z = .int .i64 (conv + k)) (fun _ z _ => (conv + seq - intOf z).toNat)
  case atStart => exact ⟨0, by omega, by omega, by unfold Not; omega, by simp, by simp⟩
  case round =>
    obtain ⟨k, hk0, hk1, hnot, rfl, rfl⟩ := hrel
    obtain ⟨m0, m1⟩ := HK.out k hk0 hk1
    by_cases hlt : k < seq
    · have HF := Lib.hid (show (k + 1) * size = k * size + size by rw [Int.add_mul, Int.one_mul])
      have HM := Lib.hid (show k * size = k * size from rfl)
      have HS := Lib.hid (show Seat conv seq size zone off → num conv seq size zone off = (zone - conv) * size + off + 1 from fun h => if_pos h)
      go_wp2
      go_loop [5, 7] (fun n o => ∃ j : Int, 0 ≤ j ∧ j ≤ size ∧ NotIn conv zone off k j ∧ n = .int .i64 (k * size + j) ∧ o = .int .i64 j) (fun _ o => (size - intOf o).toNat)
      case atStart => exact ⟨0, by omega, by omega, by unfold NotIn; omega, by simp, rfl⟩
      case round =>
        obtain ⟨j, hj0, hj1, hni, rfl, rfl⟩ := hrel
        by_cases hjlt : j < size
        · by_cases e1 : zone = conv + k
          · by_cases e2 : off = j
            · have HR := Lib.hid (show num conv seq size zone off = k * size + j + 1 by
                rw [HS.out ⟨by omega, by omega, by omega, by omega⟩, e1, e2, show conv + k - conv = k by omega])
              subst e1 e2
              generalize k * size = m at *
              go_wp2
              go_ret
              exact ⟨ret_int HR.out, h0⟩
            · have HX := Lib.hid (show NotIn conv zone off k (j + 1) by unfold NotIn at *; omega)
              have hb : (off == j) = false := by simpa using e2
              subst e1
              generalize k * size = m at *
              go_wp2
              go_round
              case rel => exact ⟨j + 1, by omega, by omega, HX.out, by go_num, rfl⟩
              case measure => simp [intOf]; omega
          · have HX := Lib.hid (show NotIn conv zone off k (j + 1) by unfold NotIn at *; omega)
            have hb : (zone == conv + k) = false := by simpa using e1
            generalize k * size = m at *
            go_wp2
            go_round
            case rel => exact ⟨j + 1, by omega, by omega, HX.out, by go_num, rfl⟩
            case measure => simp [intOf]; omega
        · obtain rfl : j = size := by omega
          have HX := Lib.hid (show Not conv zone j off (k + 1) by unfold Not NotIn at *; omega)
          generalize k * j = m at *
          go_wp2
          go_round
          case rel => exact ⟨k + 1, by omega, by omega, HX.out, by rw [HF.out], by go_num⟩
          case measure => simp [intOf]; omega
    · obtain rfl : k = seq := by omega
      have HR := Lib.hid (show num conv k size zone off = 0 from if_neg hnot)
      generalize k * size = m at *
      go_wp2
      go_ret
      exact ⟨ret_int HR.out, h0⟩
end Go.Proofs.Ythgjlofebicpiaa

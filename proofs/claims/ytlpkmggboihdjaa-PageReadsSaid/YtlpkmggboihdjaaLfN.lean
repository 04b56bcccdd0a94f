/-
  The document's answers for layer 7: Read.
-/
import Derived.Test.YtlpkmggboihdjaaLfH
import Derived.Test.YtlpkmggboihdjaaLfL
namespace Go.Proofs.Ytlpkmggboihdjaa
open Go.RowKit Word Crc Leaf
set_option linter.unusedVariables false

set_option maxRecDepth 100000 in
set_option maxHeartbeats 4000000 in
theorem rread7_any (p : List Int) (w : World) (hl : p.length = 64) (hp : octets p) :
    Calls Try.prog 15 #[.agg (bs p).toArray] w fun e w' => e = .returned (.tuple #[.agg (lcs (rreadS p).1).toArray, .int .i64 (rreadS p).2]) ∧ Below w.heap.size w w' := by
  obtain ⟨m, hm, hsz⟩ := big_size (P := Try.prog) (t := 28) (s := 64) (by kernel_rfl)
  obtain ⟨mr, hmr, hszr⟩ := big_size (P := Try.prog) (t := 24) (s := 12) (by kernel_rfl)
  have hm0 : ¬ m = 0 := by omega
  have hmr0 : ¬ mr = 0 := by omega
  have HP := Lib.hid (And.intro hl hp)
  have HM := Lib.hid (And.intro hm hmr)
  have HSu := Lib.hid fun w' => rsummed_any p w' hl hp
  have LP := Lib.hid fun (W : World) (L : LrSt w W p) => big_load0 Try.prog w.heap.size 0 (bs p) m (by rw [bs_length, HP.out.1, HM.out.1]) W L.1.range0
  clear hm hmr hl hp
  go_enter Try.func15, Try.ntmps15
  go_wp2_with (first
    | ((with_reducible refine wpList_pg_box (o := ⟨some 1, .box _ _, _, _, _, _⟩) rfl _ rfl p rfl ?_); intro w1 x0 hB1 hs1)
    | ((with_reducible refine wpList_lf_alloc (o := ⟨some 2, .alloc _, _, _, _, _⟩) rfl rfl ?_); intro w2 x1 hB2 hs2; have L := LrSt.start x0 hB1 hs1 x1 hB2 hs2; rw [hs1]; clear hs1 hs2 x0 x1 hB1 hB2; have hld := LP.out _ L)
    | fail)
  refine (HSu.out _).mono ?_
  rintro e w3 ⟨rfl, hb3⟩
  replace L := L.below hb3
  clear hb3 hld HSu
  cases hri : rightB p with
  | false =>
    have HS := Lib.hid (show rreadS p = (lf0, 8) by unfold rreadS; rw [if_pos hri])
    have HX := Lib.hid L.2.1
    have HB := Lib.hid L.2.2
    clear hri L
    go_wp2_with (first
      | (with_reducible refine wpList_lf_zero (o := ⟨some 11, .build _ _, _, _, _, _⟩) rfl rfl ?_)
      | ((with_reducible refine wpList_lf_store (o := ⟨none, .store _ _ _, _, _, _, _⟩) rfl _ _ rfl (w.heap.size + 1) lf0 lf0 lf0_in lf0_in rfl rfl HX.out ?_); intro w9 hb9 hg9 _)
      | fail)
    have hldF := big_load0 Try.prog (w.heap.size + 1) 0 (lcs lf0) mr (by rw [lcs_length lf0_in, HM.out.2]) _ hb9.range0
    generalize hR : lcs lf0 = R at hldF ⊢
    exact bodyPost_ret (v := .tuple #[.agg R.toArray, .int .i64 8]) (by simp [results, Try.results15, go_sem, hszr, hldF]) rfl ⟨by rw [HS.out, hR], below_stored HB.out.1 hg9 HB.out.1.size (by omega)⟩
  | true =>
    have HS' := Lib.hid (show rreadS p = if p.getD 0 0 = 128 ∧ okB (rtaken p) = true ∧ Noughts p then (rtaken p, 0) else (lf0, 7) by unfold rreadS; rw [if_neg (by rw [hri]; simp)])
    have HQ := Lib.hid fun w' => rright7_any (rtaken p) w' (rtaken_in p)
    have G1 := Lib.hid fun w' => (rnum7_any p 1 8 w' HP.out.1 HP.out.2 (by omega) (by omega) (by omega) : Calls Try.prog 29 #[.agg (bs p).toArray, .int .i64 1, .int .i64 8] w' _)
    have G2 := Lib.hid fun w' => (rnum7_any p 9 4 w' HP.out.1 HP.out.2 (by omega) (by omega) (by omega) : Calls Try.prog 29 #[.agg (bs p).toArray, .int .i64 9, .int .i64 4] w' _)
    have G3 := Lib.hid fun (k : Nat) (hk : k < 10) w' => (rnum7_any p (13 + 4 * k) 4 w' HP.out.1 HP.out.2 (by omega) (by omega) (by omega) : Calls Try.prog 29 #[.agg (bs p).toArray, .int .i64 ((13 + 4 * k : Nat) : Int), .int .i64 4] w' _)
    have HT := Lib.hid (show rtaken p = ⟨Rec.hi (get p 1 8), Rec.hi (get p 9 4), (List.range 10).map fun i => Rec.hi (get p (13 + 4 * i) 4)⟩ from rfl)
    have HTI := Lib.hid (rtaken_in p)
    clear hri
    generalize Rec.hi (get p 1 8) = v1 at *
    generalize Rec.hi (get p 9 4) = v2 at *
    have HV := Lib.hid (fun (k : Nat) (hk : k < 10) => show (((List.range 10).map fun i => Rec.hi (get p (13 + 4 * i) 4)).getD k 0) = Rec.hi (get p (13 + 4 * k) 4) by simp [List.getD_eq_getElem?_getD, hk])
    have HVl := Lib.hid (show ((List.range 10).map fun i => Rec.hi (get p (13 + 4 * i) 4)).length = 10 by simp)
    generalize ((List.range 10).map fun i => Rec.hi (get p (13 + 4 * i) 4)) = V at *
    generalize rtaken p = tk at *
    go_wp2_with fail
    have hSd : LrSt w w3.drew p := L.drew
    refine wp_region_alloc (fun w' => LrSt w w' p) 5 24 (lcs lf0) 4 ?ot1 ?hot1 ?hop1 ?hog1 ?hod1 ?hz1 ?hm1 ?hB1 ?hSB1 ?hS1 ?h1
    case hot1 => exact rfl
    case hop1 => exact rfl
    case hog1 => exact rfl
    case hod1 => exact rfl
    case hz1 => exact zero_leaf
    case hm1 => kernel_rfl
    case hB1 => kernel_rfl
    case hSB1 => exact fun _ _ h hb => h.below hb
    case hS1 => exact L.drew
    clear L
    simp only [List.take_succ_cons, List.take_zero, List.drop_succ_cons, List.drop_zero]
    try simp only [Act.put, List.setIfInBounds_toArray, List.set_cons_succ, List.set_cons_zero]
    refine wpR_take 1 ?hp2 w3.drew ?hw2 ?h2
    case hp2 => kernel_rfl
    case hw2 => exact hSd
    simp only [List.take_succ_cons, List.take_zero, List.drop_succ_cons, List.drop_zero]
    intro X hX f hf
    have cl := fun x => LP.out _ (hf x)
    clear hf
    repeat (go_big_quiet_step (fail))
    refine wpQuiet_nil ?_
    clear cl hX
    clear f
    refine wpR_call ?hgd3 29 ?xs3 ?ts3 ?ho3 #[.agg (bs p).toArray, .int .i64 1, .int .i64 8] ?hx3 ?hE3 (.int .i64 v1) ?hc3 ?h3
    case hgd3 => exact rfl
    case ho3 => exact rfl
    case hx3 => simp [Act.eval]
    case hE3 => exact fun w => enters_in Try.func29 (by kernel_rfl) rfl _ w
    case hc3 => exact fun w _ => G1.out w
    simp only [Act.put, List.setIfInBounds_toArray, List.set_cons_succ, List.set_cons_zero]
    refine wpR_take 1 ?hp4 w3.drew ?hw4 ?h4
    case hp4 => kernel_rfl
    case hw4 => exact hSd
    simp only [List.take_succ_cons, List.take_zero, List.drop_succ_cons, List.drop_zero]
    intro X hX f hf
    have cl := fun x => LP.out _ (hf x)
    clear hf
    repeat (go_big_quiet_step (fail))
    refine wpQuiet_nil ?_
    clear cl hX
    clear f
    refine wpR_call ?hgd5 29 ?xs5 ?ts5 ?ho5 #[.agg (bs p).toArray, .int .i64 9, .int .i64 4] ?hx5 ?hE5 (.int .i64 v2) ?hc5 ?h5
    case hgd5 => exact rfl
    case ho5 => exact rfl
    case hx5 => simp [Act.eval]
    case hE5 => exact fun w => enters_in Try.func29 (by kernel_rfl) rfl _ w
    case hc5 => exact fun w _ => G2.out w
    simp only [Act.put, List.setIfInBounds_toArray, List.set_cons_succ, List.set_cons_zero]
    refine wpR_val ?hgdb (.agg (lcs ⟨v1, v2, z10⟩).toArray) ?heb ?hb
    case hgdb => exact rfl
    case heb =>
      intro w'
      have e := run_build_leaf2 w' v1 v2
      simp only [execOp, List.map_toArray, List.map_cons, List.map_nil, Act.eval]
      simp [e]
    rintro b w' ⟨w0, hw0, rfl⟩ hw' hb'
    have hb2 := hw0.2.2.2
    clear hw0
    generalize w0.heap.size = b at hb' hb2 ⊢
    have H5 := Lib.hid (show In ⟨v1, v2, z10⟩ from lf0_in)
    have HW := Lib.hid hw'
    simp only [Act.put, List.setIfInBounds_toArray, List.set_cons_succ, List.set_cons_zero]
    clear G1 G2 hSd hw'
    go_wp2_with (first
      | ((with_reducible refine wpList_lf_store (o := ⟨none, .store _ _ _, _, _, _, _⟩) rfl _ _ rfl b ⟨v1, v2, z10⟩ lf0 H5.out lf0_in rfl rfl hb' ?_); intro w6 x6 hg6 _)
      | fail)
    have HL := Lib.hid (LrSt2.made HW.out hb2 x6 hg6)
    clear hb' x6 hg6 HW H5
    -- the places
    go_loopw [5] (fun i wr => ∃ k : Nat, k ≤ 10 ∧ i = .int .i64 k ∧ LrSt2 w wr p b ⟨v1, v2, mix V z10 k⟩) (fun i _ => 10 - (intOf i).toNat)
    case atStart => exact ⟨0, by omega, rfl, by rw [mix_zero]; exact HL.out⟩
    case round =>
      clear HL
      obtain ⟨k, hk, rfl, L⟩ := hrel
      by_cases hlt : k < 10
      · have HG := Lib.hid (G3.out k hlt)
        have HVk := Lib.hid (HV.out k hlt)
        generalize hv : Rec.hi (get p (13 + 4 * k) 4) = v at HG HVk
        clear hv
        have cl := LP.out _ L.1
        have HL := Lib.hid L
        clear L
        go_wp2_with fail
        refine ((show Calls Try.prog 29 #[.agg (bs p).toArray, .int .i64 (13 + 4 * (k : Int)), .int .i64 4] wr _ by rw [show (13 + 4 * (k : Int)) = ((13 + 4 * k : Nat) : Int) by omega]; exact HG.out wr)).mono ?_
        rintro e w7 ⟨rfl, hb7⟩
        have L := HL.out.below hb7
        have hml : (mix V z10 k).length = 10 := (mix_length (by rw [HVl.out]; rfl) hk).trans rfl
        have c0 := L.2.1.lfPlace (k := k) (by show k < (mix V z10 k).length; rw [hml]; exact hlt)
        have f0 := L.2.1.frozen (2 + k)
        have HX := Lib.hid (mix_set (S := V) (p := z10) (n := k) (by rw [HVl.out]; rfl) hlt)
        clear HL hb7 cl
        have HL := Lib.hid (L.set k v)
        clear L
        try simp only at c0
        generalize (mix V z10 k).getD k 0 = s0 at c0
        go_wp2_with fail
        go_roundw
        case rel =>
          refine ⟨k + 1, by omega, by go_num, ?_⟩
          have := HL.out
          try simp only at this
          rw [← HVk.out, HX.out] at this
          rw [← HVk.out]
          exact this
        case measure => simp [intOf]; omega
      · obtain rfl : k = 10 := by omega
        rw [mix_all (S := V) (p := z10) (n := 10) (by rw [HVl.out]; rfl) rfl, ← HT.out] at L
        have hldb := big_load0 Try.prog b 0 (lcs tk) mr (by rw [lcs_length HTI.out, HM.out.2]) _ L.2.1.range0
        have c0 := (L.1.1.cell 0).trans (bs_get (by rw [HP.out.1]; decide))
        have HL := Lib.hid L
        clear L HT HV HVl G3
        generalize p.getD 0 0 = p0 at *
        generalize hok : okB tk = ok at *
        by_cases h128 : p0 = 128
        · have hb0 : (p0 == 128) = true := by simp [h128]
          have HB0 := Lib.hid (show ok = true ↔ p0 = 128 ∧ ok = true by simp [h128])
          clear h128
          go_wp2_with fail
          refine (HQ.out _).mono ?_
          rintro e w7 ⟨rfl, hb7⟩
          have L := HL.out.below hb7
          clear HL hb7 hldb c0 hb0
          have hldb := big_load0 Try.prog b 0 (lcs tk) mr (by rw [lcs_length HTI.out, HM.out.2]) _ L.2.1.range0
          have HX := Lib.hid L.1.2.1
          have HB := Lib.hid L.1.2.2
          have HC := Lib.hid fun (n : Nat) (hn : n < 64) => (L.1.1.cell n).trans (bs_get (by rw [HP.out.1]; exact hn))
          clear L
          go_wp2_with fail
          go_loop [6, 7] (fun v i => ∃ (n : Nat) (B : Bool), 53 ≤ n ∧ n ≤ 60 ∧ i = .int .i64 n ∧ v = .bool B ∧ (B = true ↔ (p0 = 128 ∧ ok = true) ∧ ∀ j, 53 ≤ j → j < n → p.getD j 0 = 0)) (fun _ i => 60 - (intOf i).toNat)
          case atStart => exact ⟨53, _, by omega, by omega, rfl, rfl, by rw [← HB0.out]; exact ⟨fun h => ⟨h, fun j h1 h2 => by omega⟩, fun h => h.1⟩⟩
          case round =>
            clear HB0
            obtain ⟨n, B, hn0, hn1, rfl, rfl, hB⟩ := hrel
            have HBn := Lib.hid hB
            clear hB
            by_cases hlt : n < 60
            · have cn := HC.out n (by omega)
              generalize hx : p.getD n 0 = x at cn
              have HXe := Lib.hid hx
              clear hx
              cases B with
              | false =>
                go_wp2
                go_round
                case rel =>
                  refine ⟨n + 1, false, by omega, by omega, by go_num, rfl, ?_⟩
                  refine ⟨fun h => (by cases h), fun h => HBn.out.2 ⟨h.1, fun j h1 h2 => h.2 j h1 (by omega)⟩⟩
                case measure => simp [intOf]; omega
              | true =>
                by_cases hx0 : x = 0
                · subst hx0
                  go_wp2
                  go_round
                  case rel =>
                    refine ⟨n + 1, true, by omega, by omega, by go_num, rfl, fun _ => ⟨(HBn.out.1 rfl).1, fun j h1 h2 => ?_⟩, fun _ => rfl⟩
                    by_cases hj : j = n
                    · subst hj; exact HXe.out
                    · exact (HBn.out.1 rfl).2 j h1 (by omega)
                  case measure => simp [intOf]; omega
                · have hq : (x == 0) = false := by simpa using hx0
                  go_wp2
                  go_round
                  case rel =>
                    refine ⟨n + 1, false, by omega, by omega, by go_num, rfl, fun h => (by cases h), fun h => ?_⟩
                    have := h.2 n (by omega) (by omega)
                    rw [HXe.out] at this
                    exact absurd this hx0
                  case measure => simp [intOf]; omega
            · obtain rfl : n = 60 := by omega
              cases B with
              | true =>
                have HS := Lib.hid (show rreadS p = (tk, 0) by
                  rw [HS'.out, if_pos]
                  have h := HBn.out.1 rfl
                  exact ⟨h.1.1, h.1.2, h.2⟩)
                clear HS' HBn
                go_wp2_with (first
                  | ((with_reducible refine wpList_lf_store (o := ⟨none, .store _ _ _, _, _, _, _⟩) rfl _ _ rfl (w.heap.size + 1) tk lf0 HTI.out lf0_in rfl rfl HX.out ?_); intro w9 hb9 hg9 _)
                  | fail)
                have hldF := big_load0 Try.prog (w.heap.size + 1) 0 (lcs tk) mr (by rw [lcs_length HTI.out, HM.out.2]) _ hb9.range0
                generalize hR : lcs tk = R at hldF ⊢
                exact bodyPost_ret (v := .tuple #[.agg R.toArray, .int .i64 0]) (by simp [results, Try.results15, go_sem, hszr, hldF]) rfl ⟨by rw [HS.out, hR], below_stored HB.out.1 hg9 HB.out.1.size (by omega)⟩
              | false =>
                have HS := Lib.hid (show rreadS p = (lf0, 7) by
                  rw [HS'.out, if_neg]
                  rintro ⟨h1, h2, h3⟩
                  have := HBn.out.2 ⟨⟨h1, h2⟩, h3⟩
                  cases this)
                clear HS' HBn
                go_wp2_with (first
                  | (with_reducible refine wpList_lf_zero (o := ⟨some 49, .build _ _, _, _, _, _⟩) rfl rfl ?_)
                  | ((with_reducible refine wpList_lf_store (o := ⟨none, .store _ _ _, _, _, _, _⟩) rfl _ _ rfl (w.heap.size + 1) lf0 lf0 lf0_in lf0_in rfl rfl HX.out ?_); intro w9 hb9 hg9 _)
                  | fail)
                have hldF := big_load0 Try.prog (w.heap.size + 1) 0 (lcs lf0) mr (by rw [lcs_length lf0_in, HM.out.2]) _ hb9.range0
                generalize hR : lcs lf0 = R at hldF ⊢
                exact bodyPost_ret (v := .tuple #[.agg R.toArray, .int .i64 7]) (by simp [results, Try.results15, go_sem, hszr, hldF]) rfl ⟨by rw [HS.out, hR], below_stored HB.out.1 hg9 HB.out.1.size (by omega)⟩
        · have L := HL.out
          have hb0 : (p0 == 128) = false := by simpa using h128
          have HB0 := Lib.hid (show false = true ↔ p0 = 128 ∧ ok = true by simp [h128])
          clear HL hldb h128
          have hldb := big_load0 Try.prog b 0 (lcs tk) mr (by rw [lcs_length HTI.out, HM.out.2]) _ L.2.1.range0
          have HX := Lib.hid L.1.2.1
          have HB := Lib.hid L.1.2.2
          have HC := Lib.hid fun (n : Nat) (hn : n < 64) => (L.1.1.cell n).trans (bs_get (by rw [HP.out.1]; exact hn))
          clear L
          go_wp2_with fail
          go_loop [6, 7] (fun v i => ∃ (n : Nat) (B : Bool), 53 ≤ n ∧ n ≤ 60 ∧ i = .int .i64 n ∧ v = .bool B ∧ (B = true ↔ (p0 = 128 ∧ ok = true) ∧ ∀ j, 53 ≤ j → j < n → p.getD j 0 = 0)) (fun _ i => 60 - (intOf i).toNat)
          case atStart => exact ⟨53, _, by omega, by omega, rfl, rfl, by rw [← HB0.out]; exact ⟨fun h => ⟨h, fun j h1 h2 => by omega⟩, fun h => h.1⟩⟩
          case round =>
            clear HB0
            obtain ⟨n, B, hn0, hn1, rfl, rfl, hB⟩ := hrel
            have HBn := Lib.hid hB
            clear hB
            by_cases hlt : n < 60
            · have cn := HC.out n (by omega)
              generalize hx : p.getD n 0 = x at cn
              have HXe := Lib.hid hx
              clear hx
              cases B with
              | false =>
                go_wp2
                go_round
                case rel =>
                  refine ⟨n + 1, false, by omega, by omega, by go_num, rfl, ?_⟩
                  refine ⟨fun h => (by cases h), fun h => HBn.out.2 ⟨h.1, fun j h1 h2 => h.2 j h1 (by omega)⟩⟩
                case measure => simp [intOf]; omega
              | true =>
                by_cases hx0 : x = 0
                · subst hx0
                  go_wp2
                  go_round
                  case rel =>
                    refine ⟨n + 1, true, by omega, by omega, by go_num, rfl, fun _ => ⟨(HBn.out.1 rfl).1, fun j h1 h2 => ?_⟩, fun _ => rfl⟩
                    by_cases hj : j = n
                    · subst hj; exact HXe.out
                    · exact (HBn.out.1 rfl).2 j h1 (by omega)
                  case measure => simp [intOf]; omega
                · have hq : (x == 0) = false := by simpa using hx0
                  go_wp2
                  go_round
                  case rel =>
                    refine ⟨n + 1, false, by omega, by omega, by go_num, rfl, fun h => (by cases h), fun h => ?_⟩
                    have := h.2 n (by omega) (by omega)
                    rw [HXe.out] at this
                    exact absurd this hx0
                  case measure => simp [intOf]; omega
            · obtain rfl : n = 60 := by omega
              cases B with
              | true =>
                have HS := Lib.hid (show rreadS p = (tk, 0) by
                  rw [HS'.out, if_pos]
                  have h := HBn.out.1 rfl
                  exact ⟨h.1.1, h.1.2, h.2⟩)
                clear HS' HBn
                go_wp2_with (first
                  | ((with_reducible refine wpList_lf_store (o := ⟨none, .store _ _ _, _, _, _, _⟩) rfl _ _ rfl (w.heap.size + 1) tk lf0 HTI.out lf0_in rfl rfl HX.out ?_); intro w9 hb9 hg9 _)
                  | fail)
                have hldF := big_load0 Try.prog (w.heap.size + 1) 0 (lcs tk) mr (by rw [lcs_length HTI.out, HM.out.2]) _ hb9.range0
                generalize hR : lcs tk = R at hldF ⊢
                exact bodyPost_ret (v := .tuple #[.agg R.toArray, .int .i64 0]) (by simp [results, Try.results15, go_sem, hszr, hldF]) rfl ⟨by rw [HS.out, hR], below_stored HB.out.1 hg9 HB.out.1.size (by omega)⟩
              | false =>
                have HS := Lib.hid (show rreadS p = (lf0, 7) by
                  rw [HS'.out, if_neg]
                  rintro ⟨h1, h2, h3⟩
                  have := HBn.out.2 ⟨⟨h1, h2⟩, h3⟩
                  cases this)
                clear HS' HBn
                go_wp2_with (first
                  | (with_reducible refine wpList_lf_zero (o := ⟨some 49, .build _ _, _, _, _, _⟩) rfl rfl ?_)
                  | ((with_reducible refine wpList_lf_store (o := ⟨none, .store _ _ _, _, _, _, _⟩) rfl _ _ rfl (w.heap.size + 1) lf0 lf0 lf0_in lf0_in rfl rfl HX.out ?_); intro w9 hb9 hg9 _)
                  | fail)
                have hldF := big_load0 Try.prog (w.heap.size + 1) 0 (lcs lf0) mr (by rw [lcs_length lf0_in, HM.out.2]) _ hb9.range0
                generalize hR : lcs lf0 = R at hldF ⊢
                exact bodyPost_ret (v := .tuple #[.agg R.toArray, .int .i64 7]) (by simp [results, Try.results15, go_sem, hszr, hldF]) rfl ⟨by rw [HS.out, hR], below_stored HB.out.1 hg9 HB.out.1.size (by omega)⟩
end Go.Proofs.Ytlpkmggboihdjaa

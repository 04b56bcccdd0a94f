/-
  LfN TbN
-/
import Derived.Test.YtgnpohkippegpaaGreatMg45
import Derived.Test.YtgnpohkippegpaaGreatMg42
import Derived.Test.YtgnpohkippegpaaGreatMg35
/-
  The document's answers for layer 7: Read.
-/
namespace Go.Proofs.YtgnpohkippegpaaGreat
open Go.RowKit Word Crc Leaf
set_option linter.unusedVariables false

set_option maxRecDepth 100000 in
set_option maxHeartbeats 4000000 in
theorem rread7_any (p : List Int) (w : World) (hl : p.length = 64) (hp : octets p) :
    Calls Tryz.prog 36 #[.agg (bs p).toArray] w fun e w' => e = .returned (.tuple #[.agg (lcs (rreadS p).1).toArray, .int .i64 (rreadS p).2]) ∧ Below w.heap.size w w' := by
  obtain ⟨m, hm, hsz⟩ := big_size (P := Tryz.prog) (t := 43) (s := 64) (by kernel_rfl)
  obtain ⟨mr, hmr, hszr⟩ := big_size (P := Tryz.prog) (t := 86) (s := 12) (by kernel_rfl)
  have hm0 : ¬ m = 0 := by omega
  have hmr0 : ¬ mr = 0 := by omega
  have HP := Lib.hid (And.intro hl hp)
  have HM := Lib.hid (And.intro hm hmr)
  have HSu := Lib.hid fun w' => rsummed_any p w' hl hp
  have LP := Lib.hid fun (W : World) (L : LrSt w W p) => big_load0 Tryz.prog w.heap.size 0 (bs p) m (by rw [bs_length, HP.out.1, HM.out.1]) W L.1.range0
  clear hm hmr hl hp
  go_enter Tryz.func36, Tryz.ntmps36
  go_wp2_with (first
    | ((with_reducible refine wpList_pg_box (o := ⟨some 1, .box _ _, _, _, _, _⟩) rfl _ rfl p rfl ?_); intro w1 x0 hB1 hs1)
    | ((with_reducible refine wpList_lf_alloc (o := ⟨some 2, .alloc _, _, _, _, _⟩) rfl rfl ?_); intro w2 x1 hB2 hs2; have L := LrSt.start x0 hB1 hs1 x1 hB2 hs2; rw [hs1]; clear hs1 hs2 x0 x1 hB1 hB2; have hld := LP.out _ L)
    | fail)
  refine (HSu.out _).mono ?_
  rintro e w3 ⟨rfl, hb3⟩
  replace L := L.below hb3
  clear hb3 hld HSu
  cases hri : rightB p with
  | false =>
    have HS := Lib.hid (show rreadS p = (lf0, 8) by unfold rreadS; rw [if_pos hri])
    have HX := Lib.hid L.2.1
    have HB := Lib.hid L.2.2
    clear hri L
    go_wp2_with (first
      | (with_reducible refine wpList_lf_zero (o := ⟨some 11, .build _ _, _, _, _, _⟩) rfl rfl ?_)
      | ((with_reducible refine wpList_lf_store (o := ⟨none, .store _ _ _, _, _, _, _⟩) rfl _ _ rfl (w.heap.size + 1) lf0 lf0 lf0_in lf0_in rfl rfl HX.out ?_); intro w9 hb9 hg9 _)
      | fail)
    have hldF := big_load0 Tryz.prog (w.heap.size + 1) 0 (lcs lf0) mr (by rw [lcs_length lf0_in, HM.out.2]) _ hb9.range0
    generalize hR : lcs lf0 = R at hldF ⊢
    exact bodyPost_ret (v := .tuple #[.agg R.toArray, .int .i64 8]) (by simp [results, Tryz.results36, go_sem, hszr, hldF]) rfl ⟨by rw [HS.out, hR], below_stored HB.out.1 hg9 HB.out.1.size (by omega)⟩
  | true =>
    have HS' := Lib.hid (show rreadS p = if p.getD 0 0 = 128 ∧ okB (rtaken p) = true ∧ Noughts p then (rtaken p, 0) else (lf0, 7) by unfold rreadS; rw [if_neg (by rw [hri]; simp)])
    have HQ := Lib.hid fun w' => rright7_any (rtaken p) w' (rtaken_in p)
    have G1 := Lib.hid fun w' => (rnum7_any p 1 8 w' HP.out.1 HP.out.2 (by omega) (by omega) (by omega) : Calls Tryz.prog 61 #[.agg (bs p).toArray, .int .i64 1, .int .i64 8] w' _)
    have G2 := Lib.hid fun w' => (rnum7_any p 9 4 w' HP.out.1 HP.out.2 (by omega) (by omega) (by omega) : Calls Tryz.prog 61 #[.agg (bs p).toArray, .int .i64 9, .int .i64 4] w' _)
    have G3 := Lib.hid fun (k : Nat) (hk : k < 10) w' => (rnum7_any p (13 + 4 * k) 4 w' HP.out.1 HP.out.2 (by omega) (by omega) (by omega) : Calls Tryz.prog 61 #[.agg (bs p).toArray, .int .i64 ((13 + 4 * k : Nat) : Int), .int .i64 4] w' _)
    have HT := Lib.hid (show rtaken p = ⟨Rec.hi (get p 1 8), Rec.hi (get p 9 4), (List.range 10).map fun i => Rec.hi (get p (13 + 4 * i) 4)⟩ from rfl)
    have HTI := Lib.hid (rtaken_in p)
    clear hri
    generalize Rec.hi (get p 1 8) = v1 at *
    generalize Rec.hi (get p 9 4) = v2 at *
    have HV := Lib.hid (fun (k : Nat) (hk : k < 10) => show (((List.range 10).map fun i => Rec.hi (get p (13 + 4 * i) 4)).getD k 0) = Rec.hi (get p (13 + 4 * k) 4) by simp [List.getD_eq_getElem?_getD, hk])
    have HVl := Lib.hid (show ((List.range 10).map fun i => Rec.hi (get p (13 + 4 * i) 4)).length = 10 by simp)
    generalize ((List.range 10).map fun i => Rec.hi (get p (13 + 4 * i) 4)) = V at *
    generalize rtaken p = tk at *
    go_wp2_with fail
    have hSd : LrSt w w3.drew p := L.drew
    refine wp_region_alloc (fun w' => LrSt w w' p) 5 86 (lcs lf0) 4 ?ot1 ?hot1 ?hop1 ?hog1 ?hod1 ?hz1 ?hm1 ?hB1 ?hSB1 ?hS1 ?h1
    case hot1 => exact rfl
    case hop1 => exact rfl
    case hog1 => exact rfl
    case hod1 => exact rfl
    case hz1 => exact zero_leaf
    case hm1 => kernel_rfl
    case hB1 => kernel_rfl
    case hSB1 => exact fun _ _ h hb => h.below hb
    case hS1 => exact L.drew
    clear L
    simp only [List.take_succ_cons, List.take_zero, List.drop_succ_cons, List.drop_zero]
    try simp only [Act.put]
    refine wpR_take 1 ?hp2 w3.drew ?hw2 ?h2
    case hp2 => kernel_rfl
    case hw2 => exact hSd
    simp only [List.take_succ_cons, List.take_zero, List.drop_succ_cons, List.drop_zero]
    intro X hX f hf
    have cl := fun x => LP.out _ (hf x)
    clear hf
    repeat (go_big_quiet_step (fail))
    refine wpQuiet_nil ?_
    clear cl hX
    clear f
    refine wpR_call ?hgd3 61 ?xs3 ?ts3 ?ho3 #[.agg (bs p).toArray, .int .i64 1, .int .i64 8] ?hx3 ?hE3 (.int .i64 v1) ?hc3 ?h3
    case hgd3 => exact rfl
    case ho3 => exact rfl
    case hx3 => simp [Act.eval]
    case hE3 => exact fun w => enters_in Tryz.func61 (by kernel_rfl) rfl _ w
    case hc3 => exact fun w _ => G1.out w
    simp only [Act.put, List.setIfInBounds_toArray, List.set_cons_succ, List.set_cons_zero]
    refine wpR_take 1 ?hp4 w3.drew ?hw4 ?h4
    case hp4 => kernel_rfl
    case hw4 => exact hSd
    simp only [List.take_succ_cons, List.take_zero, List.drop_succ_cons, List.drop_zero]
    intro X hX f hf
    have cl := fun x => LP.out _ (hf x)
    clear hf
    repeat (go_big_quiet_step (fail))
    refine wpQuiet_nil ?_
    clear cl hX
    clear f
    refine wpR_call ?hgd5 61 ?xs5 ?ts5 ?ho5 #[.agg (bs p).toArray, .int .i64 9, .int .i64 4] ?hx5 ?hE5 (.int .i64 v2) ?hc5 ?h5
    case hgd5 => exact rfl
    case ho5 => exact rfl
    case hx5 => simp [Act.eval]
    case hE5 => exact fun w => enters_in Tryz.func61 (by kernel_rfl) rfl _ w
    case hc5 => exact fun w _ => G2.out w
    simp only [Act.put, List.setIfInBounds_toArray, List.set_cons_succ, List.set_cons_zero]
    refine wpR_val ?hgdb (.agg (lcs ⟨v1, v2, z10⟩).toArray) ?heb ?hb
    case hgdb => exact rfl
    case heb =>
      intro w'
      have e := run_build_leaf2 w' v1 v2
      simp only [execOp, List.map_toArray, List.map_cons, List.map_nil, Act.eval]
      simp [e]
    rintro b w' ⟨w0, hw0, rfl⟩ hw' hb'
    have hb2 := hw0.2.2.2
    clear hw0
    generalize w0.heap.size = b at hb' hb2 ⊢
    have H5 := Lib.hid (show In ⟨v1, v2, z10⟩ from lf0_in)
    have HW := Lib.hid hw'
    simp only [Act.put, List.setIfInBounds_toArray, List.set_cons_succ, List.set_cons_zero]
    clear G1 G2 hSd hw'
    go_wp2_with (first
      | ((with_reducible refine wpList_lf_store (o := ⟨none, .store _ _ _, _, _, _, _⟩) rfl _ _ rfl b ⟨v1, v2, z10⟩ lf0 H5.out lf0_in rfl rfl hb' ?_); intro w6 x6 hg6 _)
      | fail)
    have HL := Lib.hid (LrSt2.made HW.out hb2 x6 hg6)
    clear hb' x6 hg6 HW H5
    -- the places
    go_loopw [5] (fun i wr => ∃ k : Nat, k ≤ 10 ∧ i = .int .i64 k ∧ LrSt2 w wr p b ⟨v1, v2, mix V z10 k⟩) (fun i _ => 10 - (intOf i).toNat)
    case atStart => exact ⟨0, by omega, rfl, by rw [mix_zero]; exact HL.out⟩
    case round =>
      clear HL
      obtain ⟨k, hk, rfl, L⟩ := hrel
      by_cases hlt : k < 10
      · have HG := Lib.hid (G3.out k hlt)
        have HVk := Lib.hid (HV.out k hlt)
        generalize hv : Rec.hi (get p (13 + 4 * k) 4) = v at HG HVk
        clear hv
        have cl := LP.out _ L.1
        have HL := Lib.hid L
        clear L
        go_wp2_with fail
        refine ((show Calls Tryz.prog 61 #[.agg (bs p).toArray, .int .i64 (13 + 4 * (k : Int)), .int .i64 4] wr _ by rw [show (13 + 4 * (k : Int)) = ((13 + 4 * k : Nat) : Int) by omega]; exact HG.out wr)).mono ?_
        rintro e w7 ⟨rfl, hb7⟩
        have L := HL.out.below hb7
        have hml : (mix V z10 k).length = 10 := (mix_length (by rw [HVl.out]; rfl) hk).trans rfl
        have c0 := L.2.1.lfPlace (k := k) (by show k < (mix V z10 k).length; rw [hml]; exact hlt)
        have f0 := L.2.1.frozen (2 + k)
        have HX := Lib.hid (mix_set (S := V) (p := z10) (n := k) (by rw [HVl.out]; rfl) hlt)
        clear HL hb7 cl
        have HL := Lib.hid (L.set k v)
        clear L
        try simp only at c0
        generalize (mix V z10 k).getD k 0 = s0 at c0
        go_wp2_with fail
        go_roundw
        case rel =>
          refine ⟨k + 1, by omega, by go_num, ?_⟩
          have := HL.out
          try simp only at this
          rw [← HVk.out, HX.out] at this
          rw [← HVk.out]
          exact this
        case measure => simp [intOf]; omega
      · obtain rfl : k = 10 := by omega
        rw [mix_all (S := V) (p := z10) (n := 10) (by rw [HVl.out]; rfl) rfl, ← HT.out] at L
        have hldb := big_load0 Tryz.prog b 0 (lcs tk) mr (by rw [lcs_length HTI.out, HM.out.2]) _ L.2.1.range0
        have c0 := (L.1.1.cell 0).trans (bs_get (by rw [HP.out.1]; decide))
        have HL := Lib.hid L
        clear L HT HV HVl G3
        generalize p.getD 0 0 = p0 at *
        generalize hok : okB tk = ok at *
        by_cases h128 : p0 = 128
        · have hb0 : (p0 == 128) = true := by simp [h128]
          have HB0 := Lib.hid (show ok = true ↔ p0 = 128 ∧ ok = true by simp [h128])
          clear h128
          go_wp2_with fail
          refine (HQ.out _).mono ?_
          rintro e w7 ⟨rfl, hb7⟩
          have L := HL.out.below hb7
          clear HL hb7 hldb c0 hb0
          have hldb := big_load0 Tryz.prog b 0 (lcs tk) mr (by rw [lcs_length HTI.out, HM.out.2]) _ L.2.1.range0
          have HX := Lib.hid L.1.2.1
          have HB := Lib.hid L.1.2.2
          have HC := Lib.hid fun (n : Nat) (hn : n < 64) => (L.1.1.cell n).trans (bs_get (by rw [HP.out.1]; exact hn))
          clear L
          go_wp2_with fail
          go_loop [6, 7] (fun v i => ∃ (n : Nat) (B : Bool), 53 ≤ n ∧ n ≤ 60 ∧ i = .int .i64 n ∧ v = .bool B ∧ (B = true ↔ (p0 = 128 ∧ ok = true) ∧ ∀ j, 53 ≤ j → j < n → p.getD j 0 = 0)) (fun _ i => 60 - (intOf i).toNat)
          case atStart => exact ⟨53, _, by omega, by omega, rfl, rfl, by rw [← HB0.out]; exact ⟨fun h => ⟨h, fun j h1 h2 => by omega⟩, fun h => h.1⟩⟩
          case round =>
            clear HB0
            obtain ⟨n, B, hn0, hn1, rfl, rfl, hB⟩ := hrel
            have HBn := Lib.hid hB
            clear hB
            by_cases hlt : n < 60
            · have cn := HC.out n (by omega)
              generalize hx : p.getD n 0 = x at cn
              have HXe := Lib.hid hx
              clear hx
              cases B with
              | false =>
                go_wp2
                go_round
                case rel =>
                  refine ⟨n + 1, false, by omega, by omega, by go_num, rfl, ?_⟩
                  refine ⟨fun h => (by cases h), fun h => HBn.out.2 ⟨h.1, fun j h1 h2 => h.2 j h1 (by omega)⟩⟩
                case measure => simp [intOf]; omega
              | true =>
                by_cases hx0 : x = 0
                · subst hx0
                  go_wp2
                  go_round
                  case rel =>
                    refine ⟨n + 1, true, by omega, by omega, by go_num, rfl, fun _ => ⟨(HBn.out.1 rfl).1, fun j h1 h2 => ?_⟩, fun _ => rfl⟩
                    by_cases hj : j = n
                    · subst hj; exact HXe.out
                    · exact (HBn.out.1 rfl).2 j h1 (by omega)
                  case measure => simp [intOf]; omega
                · have hq : (x == 0) = false := by simpa using hx0
                  go_wp2
                  go_round
                  case rel =>
                    refine ⟨n + 1, false, by omega, by omega, by go_num, rfl, fun h => (by cases h), fun h => ?_⟩
                    have := h.2 n (by omega) (by omega)
                    rw [HXe.out] at this
                    exact absurd this hx0
                  case measure => simp [intOf]; omega
            · obtain rfl : n = 60 := by omega
              cases B with
              | true =>
                have HS := Lib.hid (show rreadS p = (tk, 0) by
                  rw [HS'.out, if_pos]
                  have h := HBn.out.1 rfl
                  exact ⟨h.1.1, h.1.2, h.2⟩)
                clear HS' HBn
                go_wp2_with (first
                  | ((with_reducible refine wpList_lf_store (o := ⟨none, .store _ _ _, _, _, _, _⟩) rfl _ _ rfl (w.heap.size + 1) tk lf0 HTI.out lf0_in rfl rfl HX.out ?_); intro w9 hb9 hg9 _)
                  | fail)
                have hldF := big_load0 Tryz.prog (w.heap.size + 1) 0 (lcs tk) mr (by rw [lcs_length HTI.out, HM.out.2]) _ hb9.range0
                generalize hR : lcs tk = R at hldF ⊢
                exact bodyPost_ret (v := .tuple #[.agg R.toArray, .int .i64 0]) (by simp [results, Tryz.results36, go_sem, hszr, hldF]) rfl ⟨by rw [HS.out, hR], below_stored HB.out.1 hg9 HB.out.1.size (by omega)⟩
              | false =>
                have HS := Lib.hid (show rreadS p = (lf0, 7) by
                  rw [HS'.out, if_neg]
                  rintro ⟨h1, h2, h3⟩
                  have := HBn.out.2 ⟨⟨h1, h2⟩, h3⟩
                  cases this)
                clear HS' HBn
                go_wp2_with (first
                  | (with_reducible refine wpList_lf_zero (o := ⟨some 49, .build _ _, _, _, _, _⟩) rfl rfl ?_)
                  | ((with_reducible refine wpList_lf_store (o := ⟨none, .store _ _ _, _, _, _, _⟩) rfl _ _ rfl (w.heap.size + 1) lf0 lf0 lf0_in lf0_in rfl rfl HX.out ?_); intro w9 hb9 hg9 _)
                  | fail)
                have hldF := big_load0 Tryz.prog (w.heap.size + 1) 0 (lcs lf0) mr (by rw [lcs_length lf0_in, HM.out.2]) _ hb9.range0
                generalize hR : lcs lf0 = R at hldF ⊢
                exact bodyPost_ret (v := .tuple #[.agg R.toArray, .int .i64 7]) (by simp [results, Tryz.results36, go_sem, hszr, hldF]) rfl ⟨by rw [HS.out, hR], below_stored HB.out.1 hg9 HB.out.1.size (by omega)⟩
        · have L := HL.out
          have hb0 : (p0 == 128) = false := by simpa using h128
          have HB0 := Lib.hid (show false = true ↔ p0 = 128 ∧ ok = true by simp [h128])
          clear HL hldb h128
          have hldb := big_load0 Tryz.prog b 0 (lcs tk) mr (by rw [lcs_length HTI.out, HM.out.2]) _ L.2.1.range0
          have HX := Lib.hid L.1.2.1
          have HB := Lib.hid L.1.2.2
          have HC := Lib.hid fun (n : Nat) (hn : n < 64) => (L.1.1.cell n).trans (bs_get (by rw [HP.out.1]; exact hn))
          clear L
          go_wp2_with fail
          go_loop [6, 7] (fun v i => ∃ (n : Nat) (B : Bool), 53 ≤ n ∧ n ≤ 60 ∧ i = .int .i64 n ∧ v = .bool B ∧ (B = true ↔ (p0 = 128 ∧ ok = true) ∧ ∀ j, 53 ≤ j → j < n → p.getD j 0 = 0)) (fun _ i => 60 - (intOf i).toNat)
          case atStart => exact ⟨53, _, by omega, by omega, rfl, rfl, by rw [← HB0.out]; exact ⟨fun h => ⟨h, fun j h1 h2 => by omega⟩, fun h => h.1⟩⟩
          case round =>
            clear HB0
            obtain ⟨n, B, hn0, hn1, rfl, rfl, hB⟩ := hrel
            have HBn := Lib.hid hB
            clear hB
            by_cases hlt : n < 60
            · have cn := HC.out n (by omega)
              generalize hx : p.getD n 0 = x at cn
              have HXe := Lib.hid hx
              clear hx
              cases B with
              | false =>
                go_wp2
                go_round
                case rel =>
                  refine ⟨n + 1, false, by omega, by omega, by go_num, rfl, ?_⟩
                  refine ⟨fun h => (by cases h), fun h => HBn.out.2 ⟨h.1, fun j h1 h2 => h.2 j h1 (by omega)⟩⟩
                case measure => simp [intOf]; omega
              | true =>
                by_cases hx0 : x = 0
                · subst hx0
                  go_wp2
                  go_round
                  case rel =>
                    refine ⟨n + 1, true, by omega, by omega, by go_num, rfl, fun _ => ⟨(HBn.out.1 rfl).1, fun j h1 h2 => ?_⟩, fun _ => rfl⟩
                    by_cases hj : j = n
                    · subst hj; exact HXe.out
                    · exact (HBn.out.1 rfl).2 j h1 (by omega)
                  case measure => simp [intOf]; omega
                · have hq : (x == 0) = false := by simpa using hx0
                  go_wp2
                  go_round
                  case rel =>
                    refine ⟨n + 1, false, by omega, by omega, by go_num, rfl, fun h => (by cases h), fun h => ?_⟩
                    have := h.2 n (by omega) (by omega)
                    rw [HXe.out] at this
                    exact absurd this hx0
                  case measure => simp [intOf]; omega
            · obtain rfl : n = 60 := by omega
              cases B with
              | true =>
                have HS := Lib.hid (show rreadS p = (tk, 0) by
                  rw [HS'.out, if_pos]
                  have h := HBn.out.1 rfl
                  exact ⟨h.1.1, h.1.2, h.2⟩)
                clear HS' HBn
                go_wp2_with (first
                  | ((with_reducible refine wpList_lf_store (o := ⟨none, .store _ _ _, _, _, _, _⟩) rfl _ _ rfl (w.heap.size + 1) tk lf0 HTI.out lf0_in rfl rfl HX.out ?_); intro w9 hb9 hg9 _)
                  | fail)
                have hldF := big_load0 Tryz.prog (w.heap.size + 1) 0 (lcs tk) mr (by rw [lcs_length HTI.out, HM.out.2]) _ hb9.range0
                generalize hR : lcs tk = R at hldF ⊢
                exact bodyPost_ret (v := .tuple #[.agg R.toArray, .int .i64 0]) (by simp [results, Tryz.results36, go_sem, hszr, hldF]) rfl ⟨by rw [HS.out, hR], below_stored HB.out.1 hg9 HB.out.1.size (by omega)⟩
              | false =>
                have HS := Lib.hid (show rreadS p = (lf0, 7) by
                  rw [HS'.out, if_neg]
                  rintro ⟨h1, h2, h3⟩
                  have := HBn.out.2 ⟨⟨h1, h2⟩, h3⟩
                  cases this)
                clear HS' HBn
                go_wp2_with (first
                  | (with_reducible refine wpList_lf_zero (o := ⟨some 49, .build _ _, _, _, _, _⟩) rfl rfl ?_)
                  | ((with_reducible refine wpList_lf_store (o := ⟨none, .store _ _ _, _, _, _, _⟩) rfl _ _ rfl (w.heap.size + 1) lf0 lf0 lf0_in lf0_in rfl rfl HX.out ?_); intro w9 hb9 hg9 _)
                  | fail)
                have hldF := big_load0 Tryz.prog (w.heap.size + 1) 0 (lcs lf0) mr (by rw [lcs_length lf0_in, HM.out.2]) _ hb9.range0
                generalize hR : lcs lf0 = R at hldF ⊢
                exact bodyPost_ret (v := .tuple #[.agg R.toArray, .int .i64 7]) (by simp [results, Tryz.results36, go_sem, hszr, hldF]) rfl ⟨by rw [HS.out, hR], below_stored HB.out.1 hg9 HB.out.1.size (by omega)⟩
end Go.Proofs.YtgnpohkippegpaaGreat

/-
  Layer 9's answers: Of.
-/
namespace Go.Proofs.YtgnpohkippegpaaGreat
open Go.RowKit Leaf Tbl
set_option linter.unusedVariables false

namespace Tbl
/-- the last leaf of that index among the first m, -1 if there is none -/
def fndT (ls : List Lf) (i : Nat) : Nat → Int
  | 0 => -1
  | m + 1 => if (ls.getD m lf0).index = (i : Int) then (m : Int) else fndT ls i m
theorem fnd_zero (ls : List Lf) (i : Nat) : fndT ls i 0 = -1 := rfl
theorem fnd_yes {ls : List Lf} {i m : Nat} (h : (ls.getD m lf0).index = (i : Int)) : fndT ls i (m + 1) = m := by rw [fndT, if_pos h]
theorem fnd_no {ls : List Lf} {i m : Nat} (h : ¬ (ls.getD m lf0).index = (i : Int)) : fndT ls i (m + 1) = fndT ls i m := by rw [fndT, if_neg h]
theorem fnd_range (ls : List Lf) (i : Nat) : ∀ m, fndT ls i m = -1 ∨ ∃ k, k < m ∧ fndT ls i m = (k : Int) ∧ (ls.getD k lf0).index = (i : Int)
  | 0 => .inl rfl
  | m + 1 => by
    by_cases h : (ls.getD m lf0).index = (i : Int)
    · exact .inr ⟨m, by omega, fnd_yes h, h⟩
    · rw [fnd_no h]
      rcases fnd_range ls i m with h2 | ⟨k, h1, h2, h3⟩
      · exact .inl h2
      · exact .inr ⟨k, by omega, h2, h3⟩
theorem fnd_has {ls : List Lf} {i : Nat} : ∀ {m k : Nat}, k < m → (ls.getD k lf0).index = (i : Int) → ¬ fndT ls i m = -1
  | 0, _, h, _ => by omega
  | m + 1, k, hk, h => by
    by_cases h2 : (ls.getD m lf0).index = (i : Int)
    · rw [fnd_yes h2]; omega
    · rw [fnd_no h2]
      exact fnd_has (k := k) (by
        have : k ≠ m := fun e => h2 (e ▸ h)
        omega) h
def RowOk (n i : Nat) (l : Lf) : Prop := ∀ j, j < 10 → okP n i j (l.places.getD j 0)
def lfAt (ls : List Lf) (i : Nat) : Lf := ls.getD (fndT ls i ls.length).toNat lf0
def RofRow (n : Nat) (ls : List Lf) (i : Nat) : Prop := ¬ fndT ls i ls.length = -1 ∧ RowOk n i (lfAt ls i)
def RofOk (n : Nat) (ls : List Lf) : Prop := ls.length = pages n ∧ ∀ i, i < pages n → RofRow n ls i
def yT (ls : List Lf) (i : Nat) : List Int := (List.range i).flatMap fun q => (lfAt ls q).places
theorem yT_zero (ls : List Lf) : yT ls 0 = [] := rfl
theorem yT_succ (ls : List Lf) (i : Nat) : yT ls (i + 1) = yT ls i ++ (lfAt ls i).places := by
  unfold yT
  rw [List.range_succ, List.flatMap_append]
  simp
theorem lfAt_in {ls : List Lf} (h : ∀ l ∈ ls, In l) (i : Nat) : In (lfAt ls i) := by
  unfold lfAt
  rw [List.getD_eq_getElem?_getD]
  cases hq : ls[(fndT ls i ls.length).toNat]? with
  | none => exact lf0_in
  | some l => exact h l (List.mem_of_getElem? hq)
theorem yT_length {ls : List Lf} (h : ∀ l ∈ ls, In l) (i : Nat) : (yT ls i).length = 10 * i := by
  induction i with
  | zero => rfl
  | succ i ih =>
    have := lfAt_in h i
    unfold In at this
    rw [yT_succ, List.length_append, ih, this]
    omega
/-- what stands in out behind j places of leaf i -/
def outT (n : Nat) (ls : List Lf) (i j : Nat) : List Int := (yT ls i ++ (lfAt ls i).places.take j).take n
theorem take_snoc {α : Type} {a : List α} {x : α} {n : Nat} (h : a.length < n) : (a ++ [x]).take n = a.take n ++ [x] := by
  rw [List.take_of_length_le (by simp; omega), List.take_of_length_le (by omega)]
theorem outT_yes {n : Nat} {ls : List Lf} {i j : Nat} (h : ∀ l ∈ ls, In l) (hj : j < 10) (hn : i * 10 + j < n) : outT n ls i (j + 1) = outT n ls i j ++ [(lfAt ls i).places.getD j 0] := by
  have h1 := yT_length h i
  have h2 := lfAt_in h i
  unfold In at h2
  have hl : (yT ls i ++ (lfAt ls i).places.take j).length = i * 10 + j := by rw [List.length_append, h1, List.length_take]; omega
  unfold outT
  rw [List.take_succ_eq_append_getElem (by omega), ← List.append_assoc, take_snoc (by rw [hl]; exact hn)]
  simp [List.getD_eq_getElem?_getD, h2, hj]
theorem outT_no {n : Nat} {ls : List Lf} {i j : Nat} (h : ∀ l ∈ ls, In l) (hj : j < 10) (hn : ¬ i * 10 + j < n) : outT n ls i (j + 1) = outT n ls i j := by
  have h1 := yT_length h i
  have h2 := lfAt_in h i
  unfold In at h2
  have hl : (yT ls i ++ (lfAt ls i).places.take j).length = i * 10 + j := by rw [List.length_append, h1, List.length_take]; omega
  unfold outT
  rw [List.take_succ_eq_append_getElem (by omega), ← List.append_assoc, List.take_append_of_le_length (by omega)]
theorem outT_len {n : Nat} {ls : List Lf} {i j : Nat} : (outT n ls i j).length ≤ n := by unfold outT; rw [List.length_take]; omega
theorem outT_next {n : Nat} {ls : List Lf} {i : Nat} (h : ∀ l ∈ ls, In l) : outT n ls i 10 = outT n ls (i + 1) 0 := by
  have h2 := lfAt_in h i
  unfold In at h2
  have e : (lfAt ls i).places.take 10 = (lfAt ls i).places := List.take_of_length_le (by omega)
  unfold outT
  rw [yT_succ, e, List.take_zero, List.append_nil]
theorem outT_first (n : Nat) (ls : List Lf) : outT n ls 0 0 = [] := by simp [outT, yT_zero]
theorem outT_last (n : Nat) (ls : List Lf) (i : Nat) : outT n ls i 0 = (yT ls i).take n := by simp [outT]
end Tbl
theorem lf_field {w : World} {B : Nat} {ad : Addr} {ls : List Lf} {k : Nat} {l : Lf} (h : Rd w B (some ad) (lfls ls)) (hin : ∀ l ∈ ls, In l) (hk : ls[k]? = some l) {j : Nat} {v : Value} (hj : 1 ≤ j) (hv : (lcs l)[j]? = some v) :
    w.cell? ⟨(ad.add (k * 12)).block, (ad.add (k * 12)).off + j, none⟩ = some v := by
  have e : (⟨(ad.add (k * 12)).block, (ad.add (k * 12)).off + j, none⟩ : Addr) = (ad.add (k * 12)).add j := by
    conv => rhs; unfold Addr.add
    rw [if_neg (by omega)]
    rfl
  rw [e]
  exact lf_cell h hin hk j v hv
theorem rof_arg (b : Int) (A : Option Addr) (len cap : Nat) (w : World) (hb : rightN b = false) :
    Calls Tryz.prog 37 #[.int .i64 b, .slice A len cap] w fun e w' => e = .returned (.tuple #[.slice none 0 0, .int .i64 1]) ∧ w = w' := by
  by_cases h0 : b < 0
  · go_enter Tryz.func37, Tryz.ntmps37
    go_wp2
    go_ret2
    exact ⟨rfl, rfl⟩
  · have h1 : 4096 < b := by
      apply Classical.byContradiction
      intro h
      have : rightN b = true := by unfold rightN; simp; omega
      rw [this] at hb
      cases hb
    clear hb
    go_enter Tryz.func37, Tryz.ntmps37
    go_wp2
    go_ret2
    exact ⟨rfl, rfl⟩
/-- what the answer's Of answers -/
def RofPost (w w' : World) (n : Nat) (ls : List Lf) (e : Ending) : Prop :=
  (¬ RofOk n ls ∧ e = .returned (.tuple #[.slice none 0 0, .int .i64 7])) ∨ (RofOk n ls ∧ ∃ V, e = .returned (.tuple #[V, .int .i64 0]) ∧ w'.ownsRow w.heap.size 3 1 V ((yT ls (pages n)).take n).length (is ((yT ls (pages n)).take n)))
set_option maxRecDepth 100000 in
set_option maxHeartbeats 2000000 in
theorem rof_any (n : Nat) (A : Option Addr) (cap : Nat) (ls : List Lf) (w : World) (hn : n ≤ 4096) (hin : ∀ l ∈ ls, In l) (hl : ls.length ≤ 1000) (hr : Rd w w.heap.size A (lfls ls)) :
    Calls Tryz.prog 37 #[.int .i64 n, .slice A ls.length cap] w fun e w' => RofPost w w' n ls e ∧ Below w.heap.size w w' := by
  obtain ⟨mr, hmr, hszr⟩ := big_size (P := Tryz.prog) (t := 86) (s := 12) (by kernel_rfl)
  have hmr0 : ¬ mr = 0 := by omega
  have HM := Lib.hid hmr
  have HRd := Lib.hid hr
  have HIn := Lib.hid hin
  have HNo : Hid (¬ RofOk n ls → ∀ w', RofPost w w' n ls (.returned (.tuple #[.slice none 0 0, .int .i64 7]))) := Lib.hid fun h w' => .inl ⟨h, rfl⟩
  have HYes : Hid (RofOk n ls → ∀ w' V, w'.ownsRow w.heap.size 3 1 V ((yT ls (pages n)).take n).length (is ((yT ls (pages n)).take n)) → RofPost w w' n ls (.returned (.tuple #[V, .int .i64 0]))) := Lib.hid fun h w' V hv => .inr ⟨h, V, rfl, hv⟩
  have hp := pages_le hn
  have HP := Lib.hid (And.intro (pages_up n) (pages_low n))
  clear hmr hr hin
  go_enter Tryz.func37, Tryz.ntmps37
  go_wp2
  go_loopw [6] (fun i wr => ∃ k : Nat, k ≤ pages n ∧ i = .int .i64 k ∧ w = wr) (fun i _ => pages n - (intOf i).toNat)
  case atStart => exact ⟨0, by omega, rfl, rfl⟩
  case round =>
    obtain ⟨k, hk, rfl, rfl⟩ := hrel
    by_cases hlt : k < pages n
    · have h10 : 10 * k < n := by have := HP.out; omega
      go_wp2
      go_roundw
      case rel => exact ⟨k + 1, by omega, by go_num, by first | rfl | trivial⟩
      case measure => simp [intOf]; omega
    · obtain rfl : k = pages n := by omega
      have h10 : ¬ 10 * pages n < n := by have := HP.out; omega
      by_cases hlen : ls.length = pages n
      · have hlb : ((ls.length : Int) != (pages n : Int)) = false := by rw [hlen]; simp
        have HlenE := Lib.hid hlen
        generalize hL : ls.length = len at *
        have HL := Lib.hid hL
        clear hL hlen
        go_wp2
        go_loopw [7, 8] (fun o i wr => ∃ q : Nat, q ≤ pages n ∧ i = .int .i64 q ∧ (∀ q', q' < q → RofRow n ls q') ∧ wr.ownsRow w.heap.size 3 1 o (outT n ls q 0).length (is (outT n ls q 0)) ∧ Below w.heap.size w wr) (fun _ i _ => pages n - (intOf i).toNat)
        case atStart => exact ⟨0, Nat.zero_le _, rfl, fun q' h => absurd h (Nat.not_lt_zero _), by rw [outT_first]; exact World.ownsRow_nil _ _ _ _, Below.refl _ _⟩
        case round =>
          obtain ⟨q, hq, rfl, hrows, hown, hbl⟩ := hrel
          by_cases hqt : q < pages n
          · have HO := Lib.hid (And.intro hown hbl)
            have HRows := Lib.hid hrows
            clear hown hbl hrows
            obtain ⟨wo, hwo⟩ : ∃ x, x = wr := ⟨wr, rfl⟩
            subst hwo
            have hqi : (q : Int) < (pages n : Int) := by omega
            go_wp2
            go_loopw [9, 10] (fun f i wr => ∃ k : Nat, k ≤ len ∧ i = .int .i64 k ∧ f = .int .i64 (fndT ls q k) ∧ wo = wr) (fun _ i _ => len - (intOf i).toNat)
            case atStart => exact ⟨0, Nat.zero_le _, rfl, rfl, rfl⟩
            case round =>
              obtain ⟨k, hk2, rfl, rfl, rfl⟩ := hrel
              by_cases hkt : k < len
              · have hkl : k < ls.length := by rw [HL.out]; exact hkt
                obtain ⟨l, hl1⟩ : ∃ l, ls[k]? = some l := ⟨ls[k], by simp [hkl]⟩
                have hgd : ls.getD k lf0 = l := by rw [List.getD_eq_getElem?_getD, hl1]; rfl
                have hrd := HRd.out.below HO.out.2
                obtain ⟨ad, rfl, _⟩ := lf_some hrd HIn.out hl1
                have c1 : wo.cell? ⟨(ad.add (k * mr)).block, (ad.add (k * mr)).off + 1, none⟩ = some (.int .i64 l.index) := by rw [HM.out]; exact lf_field hrd HIn.out hl1 (Nat.le_refl 1) rfl
                have hki : (k : Int) < (len : Int) := by omega
                by_cases he : l.index = (q : Int)
                · have HF := Lib.hid (fnd_yes (ls := ls) (i := q) (m := k) (by rw [hgd]; exact he))
                  have heb : (l.index == (q : Int)) = true := by simpa using he
                  clear he hgd hl1 hrd hkl
                  generalize fndT ls q k = fk at *
                  go_wp2
                  go_roundw
                  case rel => exact ⟨k + 1, by omega, by go_num, by rw [HF.out], by first | rfl | trivial⟩
                  case measure => simp [intOf]; omega
                · have HF := Lib.hid (fnd_no (ls := ls) (i := q) (m := k) (by rw [hgd]; exact he))
                  have heb : (l.index == (q : Int)) = false := by simpa using he
                  clear he hgd hl1 hrd hkl
                  generalize hfk : fndT ls q k = fk at *
                  go_wp2
                  go_roundw
                  case rel => exact ⟨k + 1, by omega, by go_num, by rw [HF.out], by first | rfl | trivial⟩
                  case measure => simp [intOf]; omega
              · obtain rfl : len = k := by omega
                rcases fnd_range ls q len with hneg | ⟨f, hf, hfe, hfi⟩
                · have HQ := Lib.hid (HNo.out (fun h => (h.2 q hqt).1 (by rw [HL.out]; exact hneg)))
                  rw [hneg]
                  clear hneg
                  go_wp2
                  go_ret2
                  exact ⟨HQ.out _, HO.out.2⟩
                · rw [hfe]
                  have hfl : f < ls.length := by rw [HL.out]; exact hf
                  obtain ⟨l, hl1⟩ : ∃ l, ls[f]? = some l := ⟨ls[f], by simp [hfl]⟩
                  have HAt : Hid (lfAt ls q = l) := Lib.hid (by unfold lfAt; rw [HL.out, hfe, Int.toNat_natCast, List.getD_eq_getElem?_getD, hl1]; rfl)
                  have HNe : Hid (¬ fndT ls q ls.length = -1) := Lib.hid (by rw [HL.out, hfe]; omega)
                  have hrd0 := HRd.out.below HO.out.2
                  obtain ⟨ad, rfl, _⟩ := lf_some hrd0 HIn.out hl1
                  have HIl := Lib.hid (HIn.out l (List.mem_of_getElem? hl1))
                  have HCd : Hid (∀ W, Below w.heap.size w W → ∀ j, j < 10 → W.cell? ⟨(ad.add (f * mr)).block, (ad.add (f * mr)).off + 2 + j, none⟩ = some (.int .i64 (l.places.getD j 0))) := Lib.hid fun W hW j hj => by
                    rw [HM.out, Nat.add_assoc]
                    exact lf_field (HRd.out.below hW) HIn.out hl1 (by omega) ((lcs_place l j).trans (is_get (by have := HIl.out; unfold In at this; omega)))
                  have hfi2 : (f : Int) < (len : Int) := by omega
                  clear hfe hfi hfl hl1 hrd0 hf
                  go_wp2
                  go_loopw [7, 11] (fun o i wr => ∃ j : Nat, j ≤ 10 ∧ i = .int .i64 j ∧ (∀ j', j' < j → okP n q j' (l.places.getD j' 0)) ∧ wr.ownsRow w.heap.size 3 1 o (outT n ls q j).length (is (outT n ls q j)) ∧ Below w.heap.size w wr) (fun _ i _ => 10 - (intOf i).toNat)
                  case atStart => exact ⟨0, by omega, rfl, fun j' h => absurd h (Nat.not_lt_zero _), HO.out⟩
                  case round =>
                    obtain ⟨j, hj, rfl, hok, hown, hbl⟩ := hrel
                    have HO2 := Lib.hid (And.intro hown hbl)
                    clear hown hbl
                    by_cases hj10 : j < 10
                    · have hcell := HCd.out wr HO2.out.2 j hj10
                      have HPl : Hid ((lfAt ls q).places.getD j 0 = l.places.getD j 0) := Lib.hid (by rw [HAt.out])
                      have HStep : Hid (okP n q j (l.places.getD j 0) → ∀ j', j' < j + 1 → okP n q j' (l.places.getD j' 0)) := Lib.hid fun h j' hj' => by
                        by_cases e : j' = j
                        · subst e; exact h
                        · exact hok j' (by omega)
                      have HBadd : Hid (¬ okP n q j (l.places.getD j 0) → ¬ RofOk n ls) := Lib.hid fun h hr => h (by
                        have := (hr.2 q hqt).2 j hj10
                        rwa [HAt.out] at this)
                      clear hok
                      have hji : (j : Int) < 10 := by omega
                      generalize l.places.getD j 0 = x at *
                      rcases (show x < 0 ∨ (x = 0 ∧ q * 10 + j < n) ∨ (x = 0 ∧ ¬ q * 10 + j < n) ∨ (0 < x ∧ q * 10 + j < n) ∨ (0 < x ∧ ¬ q * 10 + j < n) by omega) with x0 | ⟨x0, h1⟩ | ⟨x0, h1⟩ | ⟨x0, h1⟩ | ⟨x0, h1⟩
                      · have HBad := Lib.hid (HBadd.out (by unfold okP; omega))
                        have HQ := Lib.hid (HNo.out HBad.out)
                        go_wp2
                        go_ret2
                        exact ⟨HQ.out _, HO2.out.2⟩
                      · subst x0
                        have HS := Lib.hid (And.intro (HStep.out (by unfold okP; omega)) (outT_yes (ls := ls) (i := q) (j := j) HIn.out hj10 h1))
                        have hown := HO2.out.1
                        have hsz' := HO2.out.2.size
                        have hle := outT_len (n := n) (ls := ls) (i := q) (j := j)
                        go_wp2_with (at_builtin; go_loud (refine wpList_append_one _ rfl _ _ _ rfl w.heap.size 3 _ 8 elemI u7 (outT n ls q j).length _ rfl _ rfl hown rfl (by simp only [maxLen]; omega) (by omega) hsz' ?_); intro v1 w4 hown1 hg1; have HO3 := Lib.hid (And.intro hown1 (HO2.out.2.grown hg1 hsz' fun g hg => (hown.lt g hg).1)); clear hown1 hg1 hown)
                        go_roundw
                        case rel => exact ⟨j + 1, by omega, by go_num, HS.out.1, by rw [HS.out.2, List.length_append, is_append, is_one1, HPl.out]; exact HO3.out.1, HO3.out.2⟩
                        case measure => first | (simp [intOf]; done) | (simp [intOf]; omega)
                      · subst x0
                        have HS := Lib.hid (And.intro (HStep.out (by unfold okP; omega)) (outT_no (ls := ls) (i := q) (j := j) HIn.out hj10 h1))
                        go_wp2
                        go_roundw
                        case rel => exact ⟨j + 1, by omega, by go_num, HS.out.1, by rw [HS.out.2]; exact HO2.out.1, HO2.out.2⟩
                        case measure => first | (simp [intOf]; done) | (simp [intOf]; omega)
                      · have HS := Lib.hid (And.intro (HStep.out (by unfold okP; omega)) (outT_yes (ls := ls) (i := q) (j := j) HIn.out hj10 h1))
                        have hown := HO2.out.1
                        have hsz' := HO2.out.2.size
                        have hle := outT_len (n := n) (ls := ls) (i := q) (j := j)
                        go_wp2_with (at_builtin; go_loud (refine wpList_append_one _ rfl _ _ _ rfl w.heap.size 3 _ 8 elemI u7 (outT n ls q j).length _ rfl _ rfl hown rfl (by simp only [maxLen]; omega) (by omega) hsz' ?_); intro v1 w4 hown1 hg1; have HO3 := Lib.hid (And.intro hown1 (HO2.out.2.grown hg1 hsz' fun g hg => (hown.lt g hg).1)); clear hown1 hg1 hown)
                        go_roundw
                        case rel => exact ⟨j + 1, by omega, by go_num, HS.out.1, by rw [HS.out.2, List.length_append, is_append, is_one1, HPl.out]; exact HO3.out.1, HO3.out.2⟩
                        case measure => first | (simp [intOf]; done) | (simp [intOf]; omega)
                      · have HBad := Lib.hid (HBadd.out (fun h => h1 (h.2 x0)))
                        have HQ := Lib.hid (HNo.out HBad.out)
                        go_wp2
                        go_ret2
                        exact ⟨HQ.out _, HO2.out.2⟩
                    · obtain rfl : j = 10 := by omega
                      have HRow : Hid (∀ q', q' < q + 1 → RofRow n ls q') := Lib.hid fun q' h => by
                        by_cases e : q' = q
                        · subst e
                          exact ⟨HNe.out, by rw [HAt.out]; exact hok⟩
                        · exact HRows.out q' (by omega)
                      have HNx := Lib.hid (outT_next (n := n) (i := q) HIn.out)
                      clear hok
                      go_wp2
                      go_roundw
                      case rel => exact ⟨q + 1, by omega, by go_num, HRow.out, by rw [← HNx.out]; exact HO2.out.1, HO2.out.2⟩
                      case measure => first | (simp [intOf]; done) | (simp [intOf]; omega)
          · obtain rfl : q = pages n := by omega
            have HOk : Hid (RofOk n ls) := Lib.hid ⟨HL.out.trans HlenE.out, hrows⟩
            rw [outT_last] at hown
            have HO := Lib.hid (And.intro hown hbl)
            clear hrows hown hbl
            go_wp2
            go_ret2
            exact ⟨HYes.out HOk.out _ _ HO.out.1, HO.out.2⟩
      · have hlb : ((ls.length : Int) != (pages n : Int)) = true := by rw [bne_iff_ne]; omega
        have HQ := Lib.hid (HNo.out (fun h => hlen h.1))
        clear hlen
        go_wp2
        go_ret2
        exact ⟨HQ.out _, Below.refl _ _⟩
end Go.Proofs.YtgnpohkippegpaaGreat

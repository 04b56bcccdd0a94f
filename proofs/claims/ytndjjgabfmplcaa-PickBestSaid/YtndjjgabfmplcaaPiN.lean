/-
  The law Best of layer 16.
-/
import Derived.Test.YtndjjgabfmplcaaPiG
import Derived.Test.YtndjjgabfmplcaaStepA
namespace Go.Proofs.Ytndjjgabfmplcaa
open Go.RowKit Pick
set_option linter.unusedVariables false

set_option maxRecDepth 100000 in
set_option maxHeartbeats 40000000 in
theorem pilaw_best (A : Option Addr) (m cap : Nat) (l : List Cd) (n p c : Int) (w : World) (hn : 0 ≤ n ∧ n ≤ 255) (hc : 0 ≤ c ∧ c ≤ 255) (hl : l.length = m) (hmc : m ≤ cap) (hcm : cap ≤ maxLen) (hr : Rd w w.heap.size A (kls l)) :
    Calls Try.prog 5 #[.slice A m cap, .int .u8 n, .int .i64 p, .int .u8 c] w fun e w' => e = .returned (.bool true) ∧ Below w.heap.size w w' := by
  have QW := Lib.hid fun w' => awake16_any w'
  have HSz := Lib.hid fun w => size_any n w hn
  have HL := Lib.hid (And.intro hl (And.intro (Nat.le_trans hmc hcm) hr))
  have HS := Lib.hid (size_size hn)
  have HK := Lib.hid (kls_length l)
  unfold maxLen at hcm
  clear hl hr
  go_enter Try.func5, Try.ntmps5
  go_wp2_with fail
  refine (QW.out _).mono ?_
  rintro e w1 ⟨rfl, hb1⟩
  have H1 := Lib.hid (And.intro hb1 ((HL.out.2.2.below hb1).more hb1.size))
  clear hb1
  go_wp2_with fail
  refine (rright_any16 A m cap l w1 HL.out.1 HL.out.2.1 H1.out.2).mono ?_
  rintro e w2 ⟨he, rfl⟩
  rcases he with rfl | ⟨rfl, h60, hag⟩
  · go_wp2_with fail
    refine (QW.out _).mono ?_
    rintro e w9 ⟨rfl, hb9⟩
    have H9 := Lib.hid (bthen H1.out.1 hb9)
    clear hb9
    go_wp2
    go_ret
    exact ⟨rfl, H9.out⟩
  · have HA := Lib.hid hag
    clear hag
    by_cases h0 : m = 0
    · have hq : ((m : Int) == 0) = true := by simp [h0]
      clear h0
      go_wp2_with fail
      refine (QW.out _).mono ?_
      rintro e w9 ⟨rfl, hb9⟩
      have H9 := Lib.hid (bthen H1.out.1 hb9)
      clear hb9
      go_wp2
      go_ret
      exact ⟨rfl, H9.out⟩
    · have hq : ((m : Int) == 0) = false := by simp [h0]
      have hmp : 0 < m := by omega
      have hmz : ¬ (m : Int) = 0 := by omega
      obtain ⟨k, hk, hrem⟩ : ∃ k : Nat, k < m ∧ c.tmod (m : Int) = (k : Int) := ⟨(c % (m : Int)).toNat, by have h1 := Int.emod_lt_of_pos c (show 0 < (m : Int) by omega); have h2 := Int.emod_nonneg c hmz; omega, by
        have h2 := Int.emod_nonneg c hmz
        rw [Int.tmod_eq_emod_of_nonneg hc.1]
        omega⟩
      have hwc := IntWalk.i64_in c (by omega)
      have hwk := IntWalk.i64_in (k : Int) (by omega)
      obtain ⟨ad, rfl⟩ : ∃ ad, A = some ad := by
        obtain ⟨x, hx⟩ : ∃ x, l[0]? = some x := ⟨_, List.getElem?_eq_getElem (by rw [HL.out.1]; exact hmp)⟩
        obtain ⟨ad, h, _⟩ := cand_at HL.out.2.2 hx
        exact ⟨ad, h⟩
      clear h0
      go_wp2_with fail
      refine (HSz.out _).mono ?_
      rintro e w2 ⟨rfl, rfl⟩
      go_wp2_with fail
      refine (pbest_any _ p (some ad) m cap l w1 HS.out HL.out.1 HL.out.2.1 HA.out H1.out.2).mono ?_
      rintro e w3 ⟨o, ho, rfl, hb3⟩
      have HO := Lib.hid ho
      have H3 := Lib.hid (And.intro (bthen H1.out.1 hb3) ((H1.out.2.below hb3).more hb3.size))
      clear ho hb3
      have hki : (k : Int) ≤ (m : Int) := by omega
      have hkc : k ≤ cap := by omega
      have hck : ¬ cap = k := by omega
      have hk0 : (0 : Int) ≤ (k : Int) := by omega
      generalize hz : zn o = z
      generalize hok : o.isSome = ok
      have HZ := Lib.hid (And.intro hz hok)
      clear hz hok
      go_wp2_with fail

      have hmk : m - k + k = m := by omega
      have HDl := Lib.hid (show (kls (l.drop k)).length = (m - k) * 3 by rw [kls_length, List.length_drop, HL.out.1])
      have HFl := Lib.hid (show (kls (l.take k)).length = k * 3 by rw [kls_length, List.length_take, HL.out.1]; omega)
      have RD := Lib.hid fun w' (h : Below w3.heap.size w3 w') => (by
        have h2 := H3.out.2.below h
        rw [kls_drop]
        exact h2.tail : Rd w' w3.heap.size (some (ad.add (k * 3))) (kls (l.drop k)))
      have RF := Lib.hid fun w' (h : Below w3.heap.size w3 w') => (by
        have h2 := H3.out.2.below h
        rw [kls_take]
        exact h2.front : Rd w' w3.heap.size (some ad) (kls (l.take k)))
      have OneD := Lib.hid (kls_one (l.drop k))
      have OneF := Lib.hid (kls_one (l.take k))
      have OW := Lib.hid (World.ownsRow_lit (e := 23) (size := 3) w3.drew #[] 0 (Nat.le_refl w3.heap.size) (by decide) (by simp) : (w3.drew.alloc (.cells #[] 23)).ownsRow w3.heap.size 23 3 (.slice (some ⟨w3.heap.size, 0, none⟩) 0 0) 0 [])
      have BA := Lib.hid (show Below w3.heap.size w3 (w3.drew.alloc (.cells #[] 23)) from (Below.refl _ _).drew.alloc (Nat.le_refl _) _)
      have HKF := Lib.hid (kls_append (l.drop k) (l.take k))
      generalize kls (l.drop k) = D at *
      generalize kls (l.take k) = F at *
      go_region_held3 (fun w' => True) (trivial)
        (first
          | ((refine step_append_rd _ (by rfl) _ _ _ (by rfl) w3.heap.size 23 _ 3 24 elemK (.slice (some ⟨w3.heap.size, 0, none⟩) 0 0) 0 [] (by rfl) OW.out w3.heap.size (some (ad.add (k * 3))) (m - k) (cap - k) D (by rfl) HDl.out (RD.out _ BA.out) OneD.out (by unfold maxLen; omega) (by omega) (by simp <;> omega) ?_); intro v4 w4 hown4 hg4; obtain ⟨A4, k4, rfl⟩ := own_slice hown4; simp only [Nat.zero_add, List.nil_append] at hown4 ⊢; have B4 : Below w3.heap.size w3 w4 := BA.out.grown hg4 (by simp <;> omega) (fun g hg => (OW.out.lt g hg).1))
          | ((refine step_append_rd _ (by rfl) _ _ _ (by rfl) w3.heap.size 23 _ 3 24 elemK (.slice A4 (m - k) k4) (m - k) D (by rfl) hown4 w3.heap.size (some ad) k cap F (by rfl) HFl.out (RF.out _ B4) OneF.out (by unfold maxLen; omega) (by omega) B4.size ?_); intro v5 w5 hown5 hg5; have B5 : Below w3.heap.size w3 w5 := B4.grown hg5 B4.size (fun g hg => (hown4.lt g hg).1))
          | fail)
      rw [hmk, ← HKF.out] at hown5
      obtain ⟨A5, c5, rfl⟩ := own_slice hown5
      have H5 := Lib.hid (And.intro (H3.out.1.trans (B5.mono H3.out.1.size)) (Rd.own hown5))
      have HLm := Lib.hid (show (l.drop k ++ l.take k).length = m by rw [List.length_append, List.length_drop, List.length_take, HL.out.1]; omega)
      have HAm := Lib.hid (show ∀ x ∈ l.drop k ++ l.take k, Aged x from fun x hx => HA.out x ((mem_turn k x).2 hx))
      clear hown4 hg4 B4 hown5 hg5 B5 HDl HFl RD RF OneD OneF OW BA HKF
      go_wp2_with fail
      refine (HSz.out _).mono ?_
      rintro e w6 ⟨rfl, rfl⟩
      go_wp2_with fail
      refine (pbest_any _ p A5 m c5 (l.drop k ++ l.take k) w5 HS.out HLm.out HL.out.2.1 HAm.out H5.out.2).mono ?_
      rintro e w6 ⟨o', ho', rfl, hb6⟩
      obtain ⟨z1, z2⟩ := best_same HO.out ho' (mem_turn k)
      have HB := Lib.hid (bthen H5.out.1 hb6)
      rw [← z1, ← z2, HZ.out.1, HZ.out.2]
      have hzz : (z != z) = false := by simp
      have hkk : (ok != ok) = false := by simp
      clear ho' hb6 z1 z2 H5 HLm HAm hrem hwk hwc hki hkc hck hk0 hmk hk
      cases o with
      | none =>
        obtain ⟨rfl, rfl⟩ := HZ.out
        have HNo := Lib.hid HO.out
        go_wp2
        go_loopw [15, 16] (fun sm i wr => ∃ j : Nat, j ≤ m ∧ i = .int .i64 j ∧ sm = .bool false ∧ Below w.heap.size w wr) (fun _ i _ => m - (intOf i).toNat)
        case atStart => exact ⟨0, by omega, rfl, rfl, HB.out⟩
        case round =>
          obtain ⟨i, hi, rfl, rfl, hbl⟩ := hrel
          replace HB := Lib.hid hbl
          clear hbl
          by_cases hlt : i < m
          · have hli : i < l.length := by rw [HL.out.1]; exact hlt
            obtain ⟨x, hxi⟩ : ∃ x, l[i]? = some x := ⟨_, List.getElem?_eq_getElem hli⟩
            obtain ⟨adi, hadi, halli⟩ := cand_all HL.out.2.2 hxi
            obtain rfl : ad = adi := by injection hadi
            have HEi := Lib.hid hxi
            have HAi := Lib.hid halli
            have hii : (i : Int) < (m : Int) := by omega
            clear hli hxi hadi halli
            obtain ⟨xz, xl, xa⟩ := x
            have HMi : Hid (∀ w, Calls Try.prog 8 #[kv xz xl xa, .int .i64 (1 + n)] w fun e w' => e = .returned (.bool (decide (May (1 + n) ⟨xz, xl, xa⟩))) ∧ Below w.heap.size w w') := Lib.hid fun w => rmay_any _ ⟨xz, xl, xa⟩ w
            rw [decide_eq_false (fun h => HNo.out _ (List.mem_of_getElem? HEi.out) h.1)] at HMi
            go_wp2
            refine wp_region_class (fun w' => Below w.heap.size w w') (by kernel_rfl) (by kernel_rfl) HB.out.drew ?_
            intro X hX f hf hg
            have c0 : ∀ x, (f x).cell? (ad.add (i * 3)) = some (.int .i64 xz) := fun x => (HAi.out _ (hf x)).1
            have c1 : ∀ x, (f x).cell? ⟨(ad.add (i * 3)).block, (ad.add (i * 3)).off + 1, none⟩ = some (.int .i64 xl) := fun x => (HAi.out _ (hf x)).2.1
            have c2 : ∀ x, (f x).cell? ⟨(ad.add (i * 3)).block, (ad.add (i * 3)).off + 2, none⟩ = some (.int .i64 xa) := fun x => (HAi.out _ (hf x)).2.2
            have Hf := Lib.hid hf
            have Hg := Lib.hid hg
            clear hf hg
            repeat (go_big_quiet_step (first
              | (go_at_call 9; with_reducible (exact calls_class (HSz.out _) (fun _ hb => Hg.out _ (hb ▸ Hf.out _))))
              | (go_at_call 8; with_reducible (exact calls_class (HMi.out _) (fun _ hb => Hg.out _ ((Hf.out _).trans (hb.mono (Hf.out _).size)))))))
            refine wpQuiet_nil ?_
            rintro _ ⟨x, rfl⟩
            replace HB := Lib.hid (Hf.out x)
            clear c0 c1 c2 Hf Hg
            generalize f x = wq at HB ⊢
            clear x f hX
            go_wp2
            go_roundw
            case rel => exact ⟨i + 1, by omega, by go_num, rfl, HB.out⟩
            case measure => first | (simp [intOf]; done) | (simp [intOf]; omega)
          · obtain rfl : m = i := by omega
            go_wp2
            go_ret
            exact ⟨rfl, HB.out⟩
      | some b =>
        obtain ⟨rfl, rfl⟩ := HZ.out
        have HTop := Lib.hid HO.out
        obtain ⟨bi, hbm, hbb⟩ : ∃ bi, bi < m ∧ l[bi]? = some b := by
          obtain ⟨bi, hb1, hb2⟩ := List.getElem_of_mem HTop.out.1
          exact ⟨bi, by rw [← HL.out.1]; exact hb1, by rw [List.getElem?_eq_getElem hb1, hb2]⟩
        have HBb := Lib.hid hbb
        have HMayB := Lib.hid (show May (1 + n) b from ⟨HTop.out.2.1, HA.out b HTop.out.1⟩)
        clear hbb
        have hzb : zn (some b) = b.z := rfl
        simp only [hzb, Option.isSome_some]
        have HBZ := Lib.hid (show b.z = b.z from rfl)
        generalize hbz : b.z = z at *
        clear HBZ hzb
        go_wp2
        go_loopw [15, 16] (fun sm i wr => ∃ (j : Nat) (sb : Bool), j ≤ bi ∧ i = .int .i64 j ∧ sm = .bool sb ∧ Below w.heap.size w wr) (fun _ i _ => m - (intOf i).toNat)
        case atStart => exact ⟨0, false, by omega, rfl, rfl, HB.out⟩
        case round =>
          obtain ⟨i, sb, hi, rfl, rfl, hbl⟩ := hrel
          replace HB := Lib.hid hbl
          clear hbl
          have hlt : i < m := by omega
          have hli : i < l.length := by rw [HL.out.1]; exact hlt
          obtain ⟨x, hxi⟩ : ∃ x, l[i]? = some x := ⟨_, List.getElem?_eq_getElem hli⟩
          obtain ⟨adi, hadi, halli⟩ := cand_all HL.out.2.2 hxi
          obtain rfl : ad = adi := by injection hadi
          have HEi := Lib.hid hxi
          have HAi := Lib.hid halli
          have hii : (i : Int) < (m : Int) := by omega
          clear hli hxi hadi halli
          obtain ⟨xz, xl, xa⟩ := x
          have HMi : Hid (∀ w, Calls Try.prog 8 #[kv xz xl xa, .int .i64 (1 + n)] w fun e w' => e = .returned (.bool (decide (May (1 + n) ⟨xz, xl, xa⟩))) ∧ Below w.heap.size w w') := Lib.hid fun w => rmay_any _ ⟨xz, xl, xa⟩ w
          have HEb := Lib.hid (show i = bi → (⟨xz, xl, xa⟩ : Cd) = b from fun h => by
            have h1 := HEi.out
            rw [h, HBb.out] at h1
            injection h1 with h1
            exact h1.symm)
          by_cases hmay : May (1 + n) ⟨xz, xl, xa⟩
          · rw [decide_eq_true hmay] at HMi
            go_wp2
            refine wp_region_class (fun w' => Below w.heap.size w w') (by kernel_rfl) (by kernel_rfl) HB.out.drew ?_
            intro X hX f hf hg
            have c0 : ∀ x, (f x).cell? (ad.add (i * 3)) = some (.int .i64 xz) := fun x => (HAi.out _ (hf x)).1
            have c1 : ∀ x, (f x).cell? ⟨(ad.add (i * 3)).block, (ad.add (i * 3)).off + 1, none⟩ = some (.int .i64 xl) := fun x => (HAi.out _ (hf x)).2.1
            have c2 : ∀ x, (f x).cell? ⟨(ad.add (i * 3)).block, (ad.add (i * 3)).off + 2, none⟩ = some (.int .i64 xa) := fun x => (HAi.out _ (hf x)).2.2
            have Hf := Lib.hid hf
            have Hg := Lib.hid hg
            clear hf hg
            repeat (go_big_quiet_step (first
              | (go_at_call 9; with_reducible (exact calls_class (HSz.out _) (fun _ hb => Hg.out _ (hb ▸ Hf.out _))))
              | (go_at_call 8; with_reducible (exact calls_class (HMi.out _) (fun _ hb => Hg.out _ ((Hf.out _).trans (hb.mono (Hf.out _).size)))))))
            refine wpQuiet_nil ?_
            rintro _ ⟨x, rfl⟩
            replace HB := Lib.hid (Hf.out x)
            clear c0 c1 c2 Hf Hg
            generalize f x = wq at HB ⊢
            clear x f hX
            by_cases hzx : xz = z
            · have hq1 : (xz == z) = true := by simp [hzx]
              clear hzx hbz
              obtain ⟨c0, c1, c2⟩ := HAi.out wq HB.out
              go_wp2
              go_loopw [17, 18] (fun bt j wr => ∃ (q : Nat) (bb : Bool), q ≤ m ∧ j = .int .i64 q ∧ bt = .bool bb ∧ (i = bi → bb = false) ∧ Below w.heap.size w wr) (fun _ j _ => m - (intOf j).toNat)
              case atStart => exact ⟨0, false, by omega, rfl, rfl, fun _ => rfl, HB.out⟩
              case round =>
                obtain ⟨j, bb, hj, rfl, rfl, hbb, hbl⟩ := hrel
                replace HB := Lib.hid hbl
                have HBB := Lib.hid hbb
                clear hbl hbb c0 c1 c2
                by_cases hjm : j < m
                · have hlj : j < l.length := by rw [HL.out.1]; exact hjm
                  obtain ⟨y, hxj⟩ : ∃ x, l[j]? = some x := ⟨_, List.getElem?_eq_getElem hlj⟩
                  obtain ⟨adj, hadj, hallj⟩ := cand_all HL.out.2.2 hxj
                  obtain rfl : ad = adj := by injection hadj
                  have HEj := Lib.hid hxj
                  have HAj := Lib.hid hallj
                  have hij : (j : Int) < (m : Int) := by omega
                  clear hlj hxj hadj hallj
                  obtain ⟨yz, yl, ya⟩ := y
                  have HMj : Hid (∀ w, Calls Try.prog 8 #[kv yz yl ya, .int .i64 (1 + n)] w fun e w' => e = .returned (.bool (decide (May (1 + n) ⟨yz, yl, ya⟩))) ∧ Below w.heap.size w w') := Lib.hid fun w => rmay_any _ ⟨yz, yl, ya⟩ w
                  cases bb
                  · by_cases hmy : May (1 + n) ⟨yz, yl, ya⟩
                    · rw [decide_eq_true hmy] at HMj
                      by_cases hyz : yz = z
                      · have hq2 : (yz != z) = false := by simp [hyz]
                        clear hyz
                        go_wp2
                        refine wp_region_class (fun w' => Below w.heap.size w w') (by kernel_rfl) (by kernel_rfl) HB.out.drew ?_
                        intro X hX f hf hg
                        have c0 : ∀ x, (f x).cell? (ad.add (i * 3)) = some (.int .i64 xz) := fun x => (HAi.out _ (hf x)).1
                        have c1 : ∀ x, (f x).cell? ⟨(ad.add (i * 3)).block, (ad.add (i * 3)).off + 1, none⟩ = some (.int .i64 xl) := fun x => (HAi.out _ (hf x)).2.1
                        have c2 : ∀ x, (f x).cell? ⟨(ad.add (i * 3)).block, (ad.add (i * 3)).off + 2, none⟩ = some (.int .i64 xa) := fun x => (HAi.out _ (hf x)).2.2
                        have d0 : ∀ x, (f x).cell? (ad.add (j * 3)) = some (.int .i64 yz) := fun x => (HAj.out _ (hf x)).1
                        have d1 : ∀ x, (f x).cell? ⟨(ad.add (j * 3)).block, (ad.add (j * 3)).off + 1, none⟩ = some (.int .i64 yl) := fun x => (HAj.out _ (hf x)).2.1
                        have d2 : ∀ x, (f x).cell? ⟨(ad.add (j * 3)).block, (ad.add (j * 3)).off + 2, none⟩ = some (.int .i64 ya) := fun x => (HAj.out _ (hf x)).2.2
                        have Hf := Lib.hid hf
                        have Hg := Lib.hid hg
                        clear hf hg
                        repeat (go_big_quiet_step (first
                          | (go_at_call 9; with_reducible (exact calls_class (HSz.out _) (fun _ hb => Hg.out _ (hb ▸ Hf.out _))))
                          | (go_at_call 8; with_reducible (exact calls_class (HMj.out _) (fun _ hb => Hg.out _ ((Hf.out _).trans (hb.mono (Hf.out _).size)))))))
                        refine wpQuiet_nil ?_
                        rintro _ ⟨x, rfl⟩
                        replace HB := Lib.hid (Hf.out x)
                        clear c0 c1 c2 d0 d1 d2 Hf Hg
                        generalize f x = wq at HB ⊢
                        clear x f hX
                        go_wp2
                        go_roundw
                        case rel => exact ⟨j + 1, false, by omega, by go_num, rfl, fun _ => rfl, HB.out⟩
                        case measure => first | (simp [intOf]; done) | (simp [intOf]; omega)
                      · have hq2 : (yz != z) = true := by simp [hyz]
                        have HBt : Hid (∀ w, Calls Try.prog 10 #[kv yz yl ya, kv xz xl xa, .int .i64 (1 + n), .int .i64 p] w fun e w' => e = .returned (.bool (decide (Bet (1 + n) p ⟨yz, yl, ya⟩ ⟨xz, xl, xa⟩))) ∧ Below w.heap.size w w') := Lib.hid fun w => pbetter_any _ p ⟨yz, yl, ya⟩ ⟨xz, xl, xa⟩ w HS.out hmy hmay
                        have HNb := Lib.hid (show i = bi → decide (Bet (1 + n) p ⟨yz, yl, ya⟩ ⟨xz, xl, xa⟩) = false from fun h => by
                          rw [HEb.out h]
                          exact decide_eq_false (HTop.out.2.2 _ (List.mem_of_getElem? HEj.out) hmy.1))
                        generalize decide (Bet (1 + n) p ⟨yz, yl, ya⟩ ⟨xz, xl, xa⟩) = bt at *
                        go_wp2
                        refine wp_region_class (fun w' => Below w.heap.size w w') (by kernel_rfl) (by kernel_rfl) HB.out.drew ?_
                        intro X hX f hf hg
                        have c0 : ∀ x, (f x).cell? (ad.add (i * 3)) = some (.int .i64 xz) := fun x => (HAi.out _ (hf x)).1
                        have c1 : ∀ x, (f x).cell? ⟨(ad.add (i * 3)).block, (ad.add (i * 3)).off + 1, none⟩ = some (.int .i64 xl) := fun x => (HAi.out _ (hf x)).2.1
                        have c2 : ∀ x, (f x).cell? ⟨(ad.add (i * 3)).block, (ad.add (i * 3)).off + 2, none⟩ = some (.int .i64 xa) := fun x => (HAi.out _ (hf x)).2.2
                        have d0 : ∀ x, (f x).cell? (ad.add (j * 3)) = some (.int .i64 yz) := fun x => (HAj.out _ (hf x)).1
                        have d1 : ∀ x, (f x).cell? ⟨(ad.add (j * 3)).block, (ad.add (j * 3)).off + 1, none⟩ = some (.int .i64 yl) := fun x => (HAj.out _ (hf x)).2.1
                        have d2 : ∀ x, (f x).cell? ⟨(ad.add (j * 3)).block, (ad.add (j * 3)).off + 2, none⟩ = some (.int .i64 ya) := fun x => (HAj.out _ (hf x)).2.2
                        have Hf := Lib.hid hf
                        have Hg := Lib.hid hg
                        clear hf hg
                        repeat (go_big_quiet_step (first
                          | (go_at_call 9; with_reducible (exact calls_class (HSz.out _) (fun _ hb => Hg.out _ (hb ▸ Hf.out _))))
                          | (go_at_call 8; with_reducible (exact calls_class (HMj.out _) (fun _ hb => Hg.out _ ((Hf.out _).trans (hb.mono (Hf.out _).size)))))
                          | (go_at_call 10; with_reducible (exact calls_class (HBt.out _) (fun _ hb => Hg.out _ ((Hf.out _).trans (hb.mono (Hf.out _).size)))))))
                        refine wpQuiet_nil ?_
                        rintro _ ⟨x, rfl⟩
                        replace HB := Lib.hid (Hf.out x)
                        clear c0 c1 c2 d0 d1 d2 Hf Hg
                        generalize f x = wq at HB ⊢
                        clear x f hX
                        go_wp2
                        go_roundw
                        case rel => exact ⟨j + 1, bt, by omega, by go_num, rfl, HNb.out, HB.out⟩
                        case measure => first | (simp [intOf]; done) | (simp [intOf]; omega)
                    · rw [decide_eq_false hmy] at HMj
                      go_wp2
                      refine wp_region_class (fun w' => Below w.heap.size w w') (by kernel_rfl) (by kernel_rfl) HB.out.drew ?_
                      intro X hX f hf hg
                      have c0 : ∀ x, (f x).cell? (ad.add (i * 3)) = some (.int .i64 xz) := fun x => (HAi.out _ (hf x)).1
                      have c1 : ∀ x, (f x).cell? ⟨(ad.add (i * 3)).block, (ad.add (i * 3)).off + 1, none⟩ = some (.int .i64 xl) := fun x => (HAi.out _ (hf x)).2.1
                      have c2 : ∀ x, (f x).cell? ⟨(ad.add (i * 3)).block, (ad.add (i * 3)).off + 2, none⟩ = some (.int .i64 xa) := fun x => (HAi.out _ (hf x)).2.2
                      have d0 : ∀ x, (f x).cell? (ad.add (j * 3)) = some (.int .i64 yz) := fun x => (HAj.out _ (hf x)).1
                      have d1 : ∀ x, (f x).cell? ⟨(ad.add (j * 3)).block, (ad.add (j * 3)).off + 1, none⟩ = some (.int .i64 yl) := fun x => (HAj.out _ (hf x)).2.1
                      have d2 : ∀ x, (f x).cell? ⟨(ad.add (j * 3)).block, (ad.add (j * 3)).off + 2, none⟩ = some (.int .i64 ya) := fun x => (HAj.out _ (hf x)).2.2
                      have Hf := Lib.hid hf
                      have Hg := Lib.hid hg
                      clear hf hg
                      repeat (go_big_quiet_step (first
                        | (go_at_call 9; with_reducible (exact calls_class (HSz.out _) (fun _ hb => Hg.out _ (hb ▸ Hf.out _))))
                        | (go_at_call 8; with_reducible (exact calls_class (HMj.out _) (fun _ hb => Hg.out _ ((Hf.out _).trans (hb.mono (Hf.out _).size)))))))
                      refine wpQuiet_nil ?_
                      rintro _ ⟨x, rfl⟩
                      replace HB := Lib.hid (Hf.out x)
                      clear c0 c1 c2 d0 d1 d2 Hf Hg
                      generalize f x = wq at HB ⊢
                      clear x f hX
                      go_wp2
                      go_roundw
                      case rel => exact ⟨j + 1, false, by omega, by go_num, rfl, fun _ => rfl, HB.out⟩
                      case measure => first | (simp [intOf]; done) | (simp [intOf]; omega)
                  · replace HBB := Lib.hid (show ¬ i = bi from fun h => by have := HBB.out h; cases this)
                    go_wp2
                    go_quiet (fail)
                    go_wp2
                    go_roundw
                    case rel => exact ⟨j + 1, true, by omega, by go_num, rfl, fun h => absurd h HBB.out, below_draws HB.out _⟩
                    case measure => first | (simp [intOf]; done) | (simp [intOf]; omega)
                · obtain rfl : m = j := by omega
                  cases bb
                  · go_wp2
                    go_ret
                    exact ⟨rfl, HB.out⟩
                  · have hne : i < bi := by
                      have h1 : ¬ i = bi := fun h => by have := HBB.out h; cases this
                      omega
                    go_wp2
                    go_roundw
                    case rel => exact ⟨i + 1, true, by omega, by go_num, rfl, HB.out⟩
                    case measure => first | (simp [intOf]; done) | (simp [intOf]; omega)
            · have hq1 : (xz == z) = false := by simp [hzx]
              obtain ⟨c0, c1, c2⟩ := HAi.out wq HB.out
              have hne : i < bi := by
                have h1 : ¬ i = bi := fun h => by
                  have h2 := HEb.out h
                  rw [← h2] at hbz
                  exact hzx hbz
                omega
              clear hbz
              go_wp2
              go_roundw
              case rel => exact ⟨i + 1, true, by omega, by go_num, rfl, HB.out⟩
              case measure => first | (simp [intOf]; done) | (simp [intOf]; omega)
          · rw [decide_eq_false hmay] at HMi
            have hne : i < bi := by
              have h1 : ¬ i = bi := fun h => by
                have h2 := HEb.out h
                rw [h2] at hmay
                exact hmay HMayB.out
              omega
            go_wp2
            refine wp_region_class (fun w' => Below w.heap.size w w') (by kernel_rfl) (by kernel_rfl) HB.out.drew ?_
            intro X hX f hf hg
            have c0 : ∀ x, (f x).cell? (ad.add (i * 3)) = some (.int .i64 xz) := fun x => (HAi.out _ (hf x)).1
            have c1 : ∀ x, (f x).cell? ⟨(ad.add (i * 3)).block, (ad.add (i * 3)).off + 1, none⟩ = some (.int .i64 xl) := fun x => (HAi.out _ (hf x)).2.1
            have c2 : ∀ x, (f x).cell? ⟨(ad.add (i * 3)).block, (ad.add (i * 3)).off + 2, none⟩ = some (.int .i64 xa) := fun x => (HAi.out _ (hf x)).2.2
            have Hf := Lib.hid hf
            have Hg := Lib.hid hg
            clear hf hg
            repeat (go_big_quiet_step (first
              | (go_at_call 9; with_reducible (exact calls_class (HSz.out _) (fun _ hb => Hg.out _ (hb ▸ Hf.out _))))
              | (go_at_call 8; with_reducible (exact calls_class (HMi.out _) (fun _ hb => Hg.out _ ((Hf.out _).trans (hb.mono (Hf.out _).size)))))))
            refine wpQuiet_nil ?_
            rintro _ ⟨x, rfl⟩
            replace HB := Lib.hid (Hf.out x)
            clear c0 c1 c2 Hf Hg
            generalize f x = wq at HB ⊢
            clear x f hX
            go_wp2
            go_roundw
            case rel => exact ⟨i + 1, sb, by omega, by go_num, rfl, HB.out⟩
            case measure => first | (simp [intOf]; done) | (simp [intOf]; omega)
end Go.Proofs.Ytndjjgabfmplcaa

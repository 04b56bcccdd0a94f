/-
  DfT
-/
import Derived.Test.YtkdhibjmfanhcaaMg41
import Derived.Test.YtkdhibjmfanhcaaMg33
import Derived.Test.YtkdhibjmfanhcaaMg48
/-
  The walk of the law DevFlushes.
-/
namespace Go.Proofs.Ytkdhibjmfanhcaa
open Go.RowKit Geom Zone Dev
set_option linter.unusedVariables false
set_option maxRecDepth 100000 in
set_option maxHeartbeats 8000000 in
theorem law_flushes (conv soft seq size opn : Int) (A keepA : Option Addr) (n cap kn kc : Nat) (xs : List AD) (keep : List Int) (soft0 tear : Int) (w : World)
    (h64 : W64 conv ∧ W64 soft ∧ W64 seq ∧ W64 size ∧ W64 opn) (hx : ∀ x ∈ xs, AIn w x) (hxl : xs.length = n) (hxr : Rd w w.heap.size A (xs.flatMap acs))
    (hnm : n ≤ maxLen) (kr : Rd w w.heap.size keepA (ints keep)) (kl : keep.length = kn) (kcap : kn ≤ kc) (kmc : kc ≤ maxLen) (k64 : ∀ y ∈ keep, W64 y) (t64 : W64 tear) (s64 : 0 ≤ soft0 ∧ soft0 < 18446744073709551616) :
    Calls Try.prog 3 #[.agg #[.int .i64 conv, .int .i64 soft, .int .i64 seq, .int .i64 size, .int .i64 opn], .slice A n cap, .agg #[.slice keepA kn kc, .int .u64 soft0, .int .i64 tear]] w fun e w' => e = .returned (.bool true) ∧ Below w.heap.size w w' := by
  have HX := Lib.hid (And.intro hx (And.intro hxl hxr))
  have HKp := Lib.hid (And.intro kr (And.intro kl (And.intro kcap (And.intro kmc k64))))
  have H64 := Lib.hid h64
  have QW := Lib.hid fun w' => awake5_any w'
  have QL := Lib.hid fun w' => little_any conv soft seq size opn w' h64
  have hn1 := hnm
  unfold maxLen at hn1
  clear hx hxl hxr hnm kr kl kcap kmc k64 h64
  go_enter Try.func3, Try.ntmps3
  go_wp2_with (first
    | ((with_reducible refine wpList_box_box _ (o := ⟨some 3, .box _ _, _, _, _, _⟩) rfl _ _ rfl [.int .i64 conv, .int .i64 soft, .int .i64 seq, .int .i64 size, .int .i64 opn] rfl ?_); intro w1 x0 hB1 hs1)
    | ((with_reducible refine wpList_box_box _ (o := ⟨some 5, .box _ _, _, _, _, _⟩) rfl _ _ rfl [.slice keepA kn kc, .int .u64 soft0, .int .i64 tear] rfl ?_); intro w2 x1 hB2 hs2; have L := LfIn.start x0 hB1 hs1 x1 hB2 hs2; rw [hs1]; clear hs1 hs2 x0 x1 hB1 hB2)
    | fail)
  refine (QW.out _).mono ?_
  rintro e w3 ⟨rfl, hb3⟩
  have HL := Lib.hid (L.on hb3)
  clear hb3 L
  have c0 := HL.out.1.cell 0
  have c1 := HL.out.1.cell 1
  have c2 := HL.out.1.cell 2
  have c3 := HL.out.1.cell 3
  have c4 := HL.out.1.cell 4
  simp only [List.getElem?_cons_zero, List.getElem?_cons_succ] at c0 c1 c2 c3 c4
  go_wp2_with fail
  refine (QL.out _).mono ?_
  rintro e w4 ⟨rfl, hb4⟩
  replace HL := Lib.hid (HL.out.on hb4)
  clear hb4 c0 c1 c2 c3 c4
  cases hli : littleB conv soft seq size opn with
  | false =>
    go_wp2_with fail
    refine (QW.out _).mono ?_
    rintro e w5 ⟨rfl, hb5⟩
    replace HL := Lib.hid (HL.out.on hb5)
    clear hb5
    go_wp2
    go_ret
    exact ⟨rfl, HL.out.2.2.1⟩
  | true =>
    by_cases h60 : 60 < n
    · have h60' : (60 : Int) < n := by omega
      go_wp2_with fail
      refine (QW.out _).mono ?_
      rintro e w5 ⟨rfl, hb5⟩
      replace HL := Lib.hid (HL.out.on hb5)
      clear hb5
      go_wp2
      go_ret
      exact ⟨rfl, HL.out.2.2.1⟩
    · have h60' : ¬ (60 : Int) < n := by omega
      have hok : Ok conv soft seq size opn := by
        unfold littleB at hli
        simp only [Bool.and_eq_true] at hli
        exact of_decide_eq_true hli.1.1
      have c0 := HL.out.1.cell 0
      have c1 := HL.out.1.cell 1
      have c2 := HL.out.1.cell 2
      have c3 := HL.out.1.cell 3
      have c4 := HL.out.1.cell 4
      simp only [List.getElem?_cons_zero, List.getElem?_cons_succ] at c0 c1 c2 c3 c4
      have HOk := Lib.hid hok
      clear hli hok QW QL
      go_wp2_with fail
      have hps := HOk.out
      have g1 := hps.1
      have g2 := hps.2.1
      have g3 := hps.2.2.1
      clear hps
      refine (dnew_any conv soft seq size opn (conv + seq).toNat _ HOk.out (by omega)).mono ?_
      rintro e w5 ⟨b, rfl, hI, hb⟩
      have HN := Lib.hid (new_ok (n := (conv + seq).toNat) HOk.out (by omega))
      have HNI := Lib.hid hI
      have HB5 := Lib.hid hb
      have HL4 := HL
      replace HL := Lib.hid (HL.out.on hb)
      clear hI hb c0 c1 c2 c3 c4
      have c0 := HL.out.1.cell 0
      have c1 := HL.out.1.cell 1
      have c2 := HL.out.1.cell 2
      have c3 := HL.out.1.cell 3
      have c4 := HL.out.1.cell 4
      simp only [List.getElem?_cons_zero, List.getElem?_cons_succ] at c0 c1 c2 c3 c4
      go_wp2_with fail
      refine (dknew_any conv soft seq size opn (conv + seq).toNat _ HOk.out (by omega)).mono ?_
      rintro e w6 ⟨v0, rfl, hI, hb⟩
      have hkok := hI.ok
      have HKI := Lib.hid hI
      have HB6 := Lib.hid hb
      clear hI hb c0 c1 c2 c3 c4
      obtain ⟨mk, hmk, hszk⟩ := big_size (P := Try.prog) (t := 36) (s := 13) (by kernel_rfl)
      have hmk0 : ¬ mk = 0 := by omega
      have HMK := Lib.hid hmk
      clear hmk
      obtain ⟨m71, hm71, hsz71⟩ := big_size (P := Try.prog) (t := 44) (s := 71) (by kernel_rfl)
      have hm710 : ¬ m71 = 0 := by omega
      have HM71 := Lib.hid hm71
      clear hm71
      go_wp2_with (first
        | ((with_reducible refine wpList_kd_alloc (o := ⟨some 8, .alloc _, _, _, _, _⟩) rfl rfl ?_); intro w7 x7 hB7 hs7)
        | ((refine wpList_kd_store (o := ⟨none, .store _ _ _, _, _, _, _⟩) rfl _ _ rfl w6.heap.size v0 kd0 hkok rfl rfl x7 ?_); intro w8 hb8 hg8 hs8; have HBS := Lib.hid (below_stored hB7 hg8 (by omega) (Nat.le_refl _)); clear hs8 hs7 hB7 x7 hg8)
        | fail)
      have HS := Lib.hid (show LfSt 0 conv soft seq size opn w w8 [.slice keepA kn kc, .int .u64 soft0, .int .i64 tear] w6.heap.size b (newD conv soft seq size opn (conv + seq).toNat) v0 (dk0 conv (conv + seq).toNat) (fun k => w4.heap.size ≤ k ∧ k < w5.heap.size) (fun k => w5.heap.size ≤ k ∧ k < w6.heap.size) from by
        have h4 := HL4.out
        have h5 := HB5.out.size
        have h6 := HB6.out.size
        have h46 := (HL4.out.on HB5.out).on HB6.out
        exact ⟨(Both.start h4.2.2.2 HNI.out HB5.out HKI.out HB6.out).on HBS.out, h46.1.on HBS.out, h46.2.1.on HBS.out, bthen h46.2.2.1 HBS.out, hb8, h46.2.2.2, fun ht => by omega, fun hu => by omega⟩)
      have HSi := Lib.hid (show Sim (newD conv soft seq size opn (conv + seq).toNat) (dk0 conv (conv + seq).toNat) from sim_new HOk.out)
      clear HL HL4 HNI HB5 HKI HB6 HBS hkok hb8
      generalize w6.heap.size = g at *
      obtain ⟨D0, hD0⟩ : ∃ D0, newD conv soft seq size opn (conv + seq).toNat = D0 := ⟨_, rfl⟩
      have HG0 := Lib.hid (show D0.conv = conv ∧ D0.soft = soft ∧ D0.seq = seq ∧ D0.size = size ∧ D0.opn = opn from hD0 ▸ ⟨rfl, rfl, rfl, rfl, rfl⟩)
      rw [hD0] at HN HS HSi
      clear hD0
      generalize dk0 conv (conv + seq).toNat = d0 at *
      go_wp2_with fail
      go_loopw [9] (fun i wr => ∃ (k : Nat) (D : Dv) (v : KV) (d : Dk) (T U : Nat → Prop), k ≤ n ∧ i = .int .i64 k ∧ DvN k D ∧ (D.conv = conv ∧ D.soft = soft ∧ D.seq = seq ∧ D.size = size ∧ D.opn = opn) ∧ Sim D d ∧ LfSt k conv soft seq size opn w wr [.slice keepA kn kc, .int .u64 soft0, .int .i64 tear] g b D v d T U) (fun i _ => n - (intOf i).toNat)
      case atStart => exact ⟨0, D0, v0, d0, _, _, by omega, rfl, HN.out, HG0.out, HSi.out, HS.out⟩
      case round =>
        clear HN HG0 HS HSi
        obtain ⟨k, D, v, d, T, U, hk, rfl, hN, hG, hSi, hS⟩ := hrel
        have HH := Lib.hid (And.intro hN (And.intro hG (And.intro hSi hS)))
        clear hN hG hSi hS
        by_cases hlt : k < n
        · obtain ⟨x, hxk⟩ : ∃ x, xs[k]? = some x := ⟨xs[k]'(by rw [HX.out.2.1]; exact hlt), List.getElem?_eq_getElem _⟩
          have hxm := List.mem_of_getElem? hxk
          have HE := Lib.hid fun (W : World) (hb : Below w.heap.size w W) => big_elem Try.prog (w := W) (m := m71) ((HX.out.2.2.below hb).more hb.size) (fun y hy => (acs_length (HX.out.1 y hy).p).trans HM71.out.symm) (by omega) k x hxk
          obtain ⟨ad, rfl, hld⟩ := HE.out _ HH.out.2.2.2.bl
          have HA := Lib.hid (HX.out.1 x hxm)
          clear hxk hxm
          go_wp2_with fail
          refine (play_any (T := TN T wr) x (HA.out.at HH.out.2.2.2.bl fun k hk => by have := HH.out.2.2.2.far k hk; omega) (by have := HH.out.1.c; omega) HH.out.2.2.2.hT HH.out.1.ok HH.out.2.2.2.bo.open).mono ?_
          rintro e w7 ⟨rfl, hI, hF⟩
          have HN1 := Lib.hid (play_ok x HA.out.p HA.out.n HH.out.1 (by omega))
          have HS := Lib.hid (HH.out.2.2.2.play hI hF)
          have HG1 := Lib.hid (Geo5.tr (show Geo5 { D with conv := conv, soft := soft, seq := seq, size := size, opn := opn } D from HH.out.2.1) (play_geo5 D x))
          have HSi := Lib.hid (show Sim (playD D x).2 (doK conv soft seq size opn d x) from by
            have h := sim_play x HH.out.2.2.1 HH.out.1.ok HN1.out.ok
            obtain ⟨h1, h2, h3, h4, h5⟩ := HH.out.2.1
            rw [h1, h2, h3, h4, h5] at h
            exact h)
          have HAs := Lib.hid (show Fit conv seq size opn d.L ∧ (∀ c ∈ d.cached, 0 ≤ c.1 ∧ c.1 < conv + seq) ∧ (d.down = false → d.armed = true → 0 < d.left ∧ d.left < 9223372036854775808) from by
            have h := sim_asks HH.out.2.2.1 HH.out.1.ok
            obtain ⟨h1, h2, h3, h4, h5⟩ := HH.out.2.1
            rw [h1, h3, h4, h5] at h
            exact h)
          clear hI hF hld HH
          generalize hTT : (fun k => TN T wr k ∧ k < w7.heap.size) = T1 at HS
          clear hTT
          generalize (playD D x).2 = D' at *
          generalize (playD D x).1 = ev
          go_wp2_with fail
          have HSd := Lib.hid (HS.out.on (Below.refl _ _).drew)
          have hldA := big_load0 Try.prog g 0 (kcs v) mk (by rw [HMK.out]; rfl) _ HSd.out.dx.range0
          obtain ⟨ad2, had, hldB⟩ := HE.out _ HSd.out.bl
          obtain rfl := Option.some.inj had
          clear had
          refine wp_region_held_drew (S := fun _ => True) (by kernel_rfl) trivial (fun hHeld => ?_)
          refine wpAnyH_take (i := 1) (v := ?v1) rfl (by kernel_rfl) (by kernel_rfl) (by kernel_rfl) (fun _ _ _ h => h) (Or.inl ⟨by rfl, ?hy1⟩) (by trivial) ?rest1
          case hy1 =>
            intro w hSw
            go_simp
            try with_reducible rfl
          try simp only [Act.put]
          refine wpAnyH_take (i := 2) (v := ?v2) rfl (by kernel_rfl) (by kernel_rfl) (by kernel_rfl) (fun _ _ _ h => h) (Or.inl ⟨by rfl, ?hy2⟩) (by trivial) ?rest2
          case hy2 =>
            intro w hSw
            go_simp
            try with_reducible rfl
          try simp only [Act.put]
          refine wpAnyH_take (i := 3) (v := ?v3) rfl (by kernel_rfl) (by kernel_rfl) (by kernel_rfl) (fun _ _ _ h => h) (Or.inl ⟨by rfl, ?hy3⟩) (by trivial) ?rest3
          case hy3 =>
            intro w hSw
            go_simp
            try with_reducible rfl
          try simp only [Act.put]
          refine wpAnyH_ready (rs := [0, 4]) (by kernel_rfl) (by simp) ?_
          refine AllReadyH.cons (o := ⟨some 47, .load _ _, _, _, _, _⟩) rfl (fun K hK => ?_) (AllReadyH.cons (o := ⟨some 51, .load _ _, _, _, _, _⟩) rfl (fun K hK => ?_) AllReadyH.nil)
          · go_simp
            refine hK.out _ _ trivial (fun hHeld => ?_)
            clear hK K
            try simp only [Act.put]
            refine wpAnyH_ready (rs := [4]) (by kernel_rfl) (by simp) ?_
            refine AllReadyH.cons (o := ⟨some 51, .load _ _, _, _, _, _⟩) rfl (fun K hK => ?_) AllReadyH.nil
            go_simp
            refine hK.out _ _ trivial (fun hHeld => ?_)
            clear hK K
            try simp only [Act.put]
            clear hldA hldB
            refine wpAnyH_ready (rs := [5]) (by kernel_rfl) (by simp) ?_
            refine AllReadyH.cons (o := ⟨some 52, .call _, _, _, _, _⟩) rfl (fun K hK => ?_) AllReadyH.nil
            go_simp
            refine (do_any k conv soft seq size opn U v d x _ (by omega) HOk.out HAs.out.1 HSd.out.bo.dsk (HA.out.on HSd.out.bl) HAs.out.2.1 HAs.out.2.2).mono ?_
            rintro e w8 ⟨v', er, rfl, hI8, hb8⟩
            have HI8 := Lib.hid hI8
            have HB8 := Lib.hid hb8
            have hkok := hI8.ok
            have hdx := HSd.out.dx.on hb8
            clear hI8 hb8
            go_wp2_with fail
            refine hK.out _ _ trivial (fun hHeld => ?_)
            clear hK K
            try simp only [Act.put]
            refine wpAnyH_take (i := 6) (v := ?v6) rfl (by kernel_rfl) (by kernel_rfl) (by kernel_rfl) (fun _ _ _ h => h) (Or.inl ⟨by rfl, ?hy6⟩) (by trivial) ?rest6
            case hy6 =>
              intro w hSw
              go_simp
              try with_reducible rfl
            try simp only [Act.put]
            refine wpAnyH_take (i := 7) (v := ?v7) rfl (by kernel_rfl) (by kernel_rfl) (by kernel_rfl) (fun _ _ _ h => h) (Or.inl ⟨by rfl, ?hy7⟩) (by trivial) ?rest7
            case hy7 =>
              intro w hSw
              go_simp
              try with_reducible rfl
            try simp only [Act.put]
            refine wpAnyH_take (i := 8) (v := ?v8) rfl (by kernel_rfl) (by kernel_rfl) (by kernel_rfl) (fun _ _ _ h => h) (Or.inl ⟨by rfl, ?hy8⟩) (by trivial) ?rest8
            case hy8 =>
              intro w hSw
              go_simp
              try with_reducible rfl
            try simp only [Act.put]
            refine wpAnyH_ready (rs := [9]) (by kernel_rfl) (by simp) ?_
            refine AllReadyH.cons (o := ⟨none, .store _ _ _, _, _, _, _⟩) rfl (fun K hK => ?_) AllReadyH.nil
            refine step_kd_store rfl _ _ rfl g v' v hkok (by rfl) (by rfl) hdx ?_
            intro w9 hx9 hg9
            have HS9 := Lib.hid (HSd.out.act HI8.out HB8.out hx9 hg9)
            clear hkok hdx hx9 hg9 HI8 HB8 HSd HS
            refine hK.out _ _ trivial (fun hHeld => ?_)
            clear hK K
            try simp only [Act.put]
            refine wpAnyH_done (by kernel_rfl) ?_ _
            go_wp2
            go_roundw
            case rel => exact ⟨k + 1, D', v', doK conv soft seq size opn d x, _, _, by omega, by go_num, HN1.out, HG1.out, HSi.out, HS9.out⟩
            case measure => simp [intOf]; omega
          · go_simp
            refine hK.out _ _ trivial (fun hHeld => ?_)
            clear hK K
            try simp only [Act.put]
            refine wpAnyH_ready (rs := [0]) (by kernel_rfl) (by simp) ?_
            refine AllReadyH.cons (o := ⟨some 47, .load _ _, _, _, _, _⟩) rfl (fun K hK => ?_) AllReadyH.nil
            go_simp
            refine hK.out _ _ trivial (fun hHeld => ?_)
            clear hK K
            try simp only [Act.put]
            clear hldA hldB
            refine wpAnyH_ready (rs := [5]) (by kernel_rfl) (by simp) ?_
            refine AllReadyH.cons (o := ⟨some 52, .call _, _, _, _, _⟩) rfl (fun K hK => ?_) AllReadyH.nil
            go_simp
            refine (do_any k conv soft seq size opn U v d x _ (by omega) HOk.out HAs.out.1 HSd.out.bo.dsk (HA.out.on HSd.out.bl) HAs.out.2.1 HAs.out.2.2).mono ?_
            rintro e w8 ⟨v', er, rfl, hI8, hb8⟩
            have HI8 := Lib.hid hI8
            have HB8 := Lib.hid hb8
            have hkok := hI8.ok
            have hdx := HSd.out.dx.on hb8
            clear hI8 hb8
            go_wp2_with fail
            refine hK.out _ _ trivial (fun hHeld => ?_)
            clear hK K
            try simp only [Act.put]
            refine wpAnyH_take (i := 6) (v := ?v6b) rfl (by kernel_rfl) (by kernel_rfl) (by kernel_rfl) (fun _ _ _ h => h) (Or.inl ⟨by rfl, ?hy6b⟩) (by trivial) ?rest6b
            case hy6b =>
              intro w hSw
              go_simp
              try with_reducible rfl
            try simp only [Act.put]
            refine wpAnyH_take (i := 7) (v := ?v7b) rfl (by kernel_rfl) (by kernel_rfl) (by kernel_rfl) (fun _ _ _ h => h) (Or.inl ⟨by rfl, ?hy7b⟩) (by trivial) ?rest7b
            case hy7b =>
              intro w hSw
              go_simp
              try with_reducible rfl
            try simp only [Act.put]
            refine wpAnyH_take (i := 8) (v := ?v8b) rfl (by kernel_rfl) (by kernel_rfl) (by kernel_rfl) (fun _ _ _ h => h) (Or.inl ⟨by rfl, ?hy8b⟩) (by trivial) ?rest8b
            case hy8b =>
              intro w hSw
              go_simp
              try with_reducible rfl
            try simp only [Act.put]
            refine wpAnyH_ready (rs := [9]) (by kernel_rfl) (by simp) ?_
            refine AllReadyH.cons (o := ⟨none, .store _ _ _, _, _, _, _⟩) rfl (fun K hK => ?_) AllReadyH.nil
            refine step_kd_store rfl _ _ rfl g v' v hkok (by rfl) (by rfl) hdx ?_
            intro w9 hx9 hg9
            have HS9 := Lib.hid (HSd.out.act HI8.out HB8.out hx9 hg9)
            clear hkok hdx hx9 hg9 HI8 HB8 HSd HS
            refine hK.out _ _ trivial (fun hHeld => ?_)
            clear hK K
            try simp only [Act.put]
            refine wpAnyH_done (by kernel_rfl) ?_ _
            go_wp2
            go_roundw
            case rel => exact ⟨k + 1, D', v', doK conv soft seq size opn d x, _, _, by omega, by go_num, HN1.out, HG1.out, HSi.out, HS9.out⟩
            case measure => simp [intOf]; omega
        · obtain rfl : n = k := by omega
          have HN := Lib.hid (armD_ok (n := -1) (w64 (by decide) (by decide)) HH.out.1)
          have HS := Lib.hid HH.out.2.2.2
          have HG := Lib.hid HH.out.2.1
          have HSi := Lib.hid HH.out.2.2.1
          have HN0 := Lib.hid HH.out.1
          clear HH
          go_wp2_with fail
          refine (arm_any (T := TN T wr) (-1) HS.out.bo.open).mono ?_
          rintro e w6 ⟨rfl, hI, hF⟩
          replace HS := Lib.hid (HS.out.play hI hF)
          clear hI hF
          generalize hTT : (fun k => TN T wr k ∧ k < w6.heap.size) = T1 at HS
          clear hTT
          go_wp2_with fail
          refine (flush_any (T := TN T1 w6) HS.out.hT HN.out.ok HS.out.bo.open).mono ?_
          rintro e w7 ⟨rfl, hI, hF⟩
          replace HS := Lib.hid (HS.out.play hI hF)
          clear hI hF
          generalize hTT : (fun k => TN T1 w6 k ∧ k < w7.heap.size) = T2 at HS
          clear hTT
          cases hdn : D.down with
          | true =>
            rw [flush_down hdn] at HS ⊢
            have HB := Lib.hid HS.out.bl
            obtain ⟨gz, cz, lb, cv, nb, hb, _⟩ := HS.out.bo.dev
            rw [hdn] at hb
            have HDn := Lib.hid (down_any hb)
            clear hb hdn
            go_wp2_with fail
            refine HDn.out.mono ?_
            rintro e w8 ⟨rfl, rfl⟩
            go_wp2
            go_ret
            exact ⟨rfl, HB.out⟩
          | false =>
            rw [(flush_up hdn 0).1]
            have HN1 := Lib.hid (flush_ok HN.out (by omega))
            have HPg := Lib.hid fun a => flush_page hdn keep soft0 tear a
            have HD1 := Lib.hid (show (flushD (armD D (-1))).2.L = D.L ∧ (flushD (armD D (-1))).2.cache = [] ∧ Geo5 D (flushD (armD D (-1))).2 from by
              obtain ⟨f, u, e, _⟩ := flush_up2 hdn
              rw [e]
              exact ⟨rfl, rfl, rfl, rfl, rfl, rfl, rfl⟩)
            clear HN hdn
            generalize (flushD (armD D (-1))).2 = D1 at *
            go_wp2_with fail
            refine (zones_dev (T := TN T2 w7) HS.out.hT HN1.out.ok HS.out.bo.open).mono ?_
            rintro e w8 ⟨g1, c1, rfl, hown, hb⟩
            have HZ1 := Lib.hid (show Zr w8 g1 D1.n c1 D1.L T2 from ⟨⟨_, hown⟩, fun h2 => by have := (HS.out.bo.tl g1 h2).1; have := (hown.lt g1 rfl).1; omega⟩)
            replace HS := Lib.hid (HS.out.on hb)
            clear hown hb
            have cw0 := HS.out.wx.cell 0
            have cw1 := HS.out.wx.cell 1
            have cw2 := HS.out.wx.cell 2
            simp only [List.getElem?_cons_zero, List.getElem?_cons_succ] at cw0 cw1 cw2
            go_wp2_with fail
            refine (crash_any (TN T2 w8) D1 keepA kn kc keep soft0 tear HS.out.hT HN1.out.ok HS.out.bo.open ((HKp.out.1.below HS.out.bl).more HS.out.bl.size) HKp.out.2.1 HKp.out.2.2.1 HKp.out.2.2.2.1 HKp.out.2.2.2.2 (keep_far HKp.out.1 fun k hk => by have := HS.out.far k hk; omega)).mono ?_
            rintro e w9 ⟨rfl, hI, hF⟩
            replace HZ1 := Lib.hid (HZ1.out.play hF)
            replace HS := Lib.hid (HS.out.play hI hF)
            have HN2 := Lib.hid (crash_ok keep soft0 tear HN1.out (by omega))
            have HD2 := Lib.hid (show (crashD D1 keep soft0 tear).L = D.L.map pow ∧ (crashD D1 keep soft0 tear).cache = [] ∧ (crashD D1 keep soft0 tear).down = false ∧ Geo5 D (crashD D1 keep soft0 tear) from by
              obtain ⟨h1, h2, h3, h4⟩ := crash_none HD1.out.2.1 keep soft0 tear
              exact ⟨h1.trans (by rw [HD1.out.1]), h3, h4, HD1.out.2.2.tr (crash_geo5 _ _ _ _)⟩)
            clear hI hF cw0 cw1 cw2
            generalize hTT : (fun k => TN T2 w8 k ∧ k < w9.heap.size) = T3 at HS HZ1
            clear hTT
            generalize crashD D1 keep soft0 tear = D2 at *
            go_wp2_with fail
            refine (zones_dev (T := TN T3 w9) HS.out.hT HN2.out.ok HS.out.bo.open).mono ?_
            rintro e w10 ⟨g2, c2, rfl, hown, hb⟩
            have HZ2 := Lib.hid (show Zr w10 g2 D2.n c2 D2.L T3 from ⟨⟨_, hown⟩, fun h2 => by have := (HS.out.bo.tl g2 h2).1; have := (hown.lt g2 rfl).1; omega⟩)
            replace HZ1 := Lib.hid (HZ1.out.on hb)
            replace HS := Lib.hid (HS.out.on hb)
            clear hown hb
            -- how many zones, and their pointers
            obtain ⟨q1, q2, q3, q4, q5⟩ := HG.out
            have HC := Lib.hid (show D2.conv = conv ∧ D2.soft = soft ∧ D2.seq = seq ∧ D2.size = size ∧ D2.opn = opn from by
              obtain ⟨e1, e2, e3, e4, e5⟩ := HD2.out.2.2.2
              exact ⟨e1.trans q1, e2.trans q2, e3.trans q3, e4.trans q4, e5.trans q5⟩)
            have hn2 : (D2.n : Int) = conv + seq := by have := HN2.out.ok.ns; rw [HC.out.1, HC.out.2.2.1] at this; exact this
            have hnn : D1.n = D2.n := by
              have := HN1.out.ok.ns
              obtain ⟨e1, _, e3, _, _⟩ := HD1.out.2.2
              rw [e1, e3, q1, q3] at this
              omega
            have hLl : D.L.length = D2.n := by have := HN0.out.ok.fit.1; rw [q1, q3] at this; omega
            have HPt := Lib.hid (show ∀ z, z < D2.n → ∃ pt : Int, D1.L[z]? = some ((D.L.getD z (0, 0)).1, pt) ∧ (∃ y : Z, D2.L[z]? = some y ∧ y.2 = pt) ∧ (zat D2.L z).2 = pt ∧ 0 ≤ pt ∧ pt ≤ 256 ∧ ((z : Int) < conv → pt = 0) from fun z hz => by
              have hzl : z < D.L.length := by omega
              have e : D.L[z]? = some D.L[z] := List.getElem?_eq_getElem hzl
              have e2 : D2.L[z]? = some (pow D.L[z]) := by rw [HD2.out.1, List.getElem?_map, e]; rfl
              have hzt : (zat D2.L z).2 = (D.L[z]).2 := by unfold zat; rw [Int.toNat_natCast, List.getD_eq_getElem?_getD, e2]; exact pow_snd _
              have h1 : fitZ D2.conv D2.size z (zat D2.L z) := HN2.out.ok.fit.2.2 z (by rw [HD2.out.1, List.length_map]; exact hzl)
              have h2 := HN2.out.ok.ok.2.2.2.2.1
              have h0 : 0 ≤ (zat D2.L z).2 ∧ (zat D2.L z).2 ≤ 256 ∧ ((z : Int) < D2.conv → (zat D2.L z).2 = 0) := by unfold fitZ at h1; omega
              refine ⟨(D.L[z]).2, ?_, ⟨_, e2, pow_snd _⟩, hzt, by omega, by omega, fun hc => by have := h0.2.2 (by rw [HC.out.1]; exact hc); omega⟩
              rw [HD1.out.1, e, List.getD_eq_getElem?_getD, e]
              rfl)
            rw [hnn] at HZ1 ⊢
            clear HN1 HD1 hnn hLl q1 q2 q3 q4 q5
            generalize D1.L = L1 at *
            go_wp2_with fail
            have HI0 := Lib.hid (And.intro HS.out (And.intro HZ1.out HZ2.out))
            clear HS HZ1 HZ2
            obtain ⟨nn, hnn⟩ : ∃ nn, D2.n = nn := ⟨_, rfl⟩
            rw [hnn] at HI0 HPt hn2 ⊢
            go_loopw [12] (fun i wr => ∃ (z : Nat) (T : Nat → Prop), z ≤ nn ∧ i = .int .i64 z ∧ LfSt n conv soft seq size opn w wr [.slice keepA kn kc, .int .u64 soft0, .int .i64 tear] g b D2 v d T U ∧ Zr wr g1 nn c1 L1 T ∧ Zr wr g2 nn c2 D2.L T) (fun i _ => nn - (intOf i).toNat)
            case atStart => exact ⟨0, T3, by omega, rfl, HI0.out.1, HI0.out.2.1, HI0.out.2.2⟩
            case round =>
              clear HI0
              obtain ⟨z, T4, hz, rfl, hS, hZ1, hZ2⟩ := hrel
              have HH := Lib.hid (And.intro hS (And.intro hZ1 hZ2))
              clear hS hZ1 hZ2
              by_cases hzl : z < nn
              · obtain ⟨pt, hp1, ⟨y, hp2, hp3⟩, hp4, hp5, hp6, hp7⟩ := HPt.out z hzl
                have HP4 := Lib.hid hp4
                have cz1 := HH.out.2.1.at hp1
                have cz2 := HH.out.2.2.at hp2
                rw [hp3] at cz2
                dsimp only at cz1
                clear hp2 hp3 hp4
                have HP1 := Lib.hid hp1
                have HP7 := Lib.hid hp7
                clear hp1 hp7
                go_wp2_with fail
                go_region
                go_wp2_with fail
                clear cz1 cz2
                go_loopw [13] (fun i wr => ∃ (j : Nat) (T : Nat → Prop), (j : Int) ≤ pt ∧ i = .int .i64 j ∧ LfSt n conv soft seq size opn w wr [.slice keepA kn kc, .int .u64 soft0, .int .i64 tear] g b D2 v d T U ∧ Zr wr g1 nn c1 L1 T ∧ Zr wr g2 nn c2 D2.L T) (fun i _ => (pt - intOf i).toNat)
                case atStart => exact ⟨0, T4, by omega, rfl, HH.out.1.on (Below.refl _ _).drew, HH.out.2.1.on (Below.refl _ _).drew, HH.out.2.2.on (Below.refl _ _).drew⟩
                case round =>
                  clear HH
                  obtain ⟨j, T5, hj, rfl, hS, hZ1, hZ2⟩ := hrel
                  have HH := Lib.hid (And.intro hS (And.intro hZ1 hZ2))
                  clear hS hZ1 hZ2
                  have cz1 := HH.out.2.1.at HP1.out
                  dsimp only at cz1
                  by_cases hjp : (j : Int) < pt
                  · have hzc : conv ≤ (z : Int) := by
                      rcases Int.lt_or_le (z : Int) conv with h | h
                      · have := HP7.out h; omega
                      · exact h
                    have HR := Lib.hid (read_ok HN2.out.ok HD2.out.2.2.1 (z := (z : Int)) (i := (j : Int)) (by rw [HC.out.1]; omega) (by rw [HC.out.1, HC.out.2.2.1]; omega) (by omega) (by rw [HP4.out]; omega))
                    go_wp2_with fail
                    clear cz1
                    have hbA := (Below.refl wr.heap.size wr).alloc (Nat.le_refl _) (.cells #[.int .i64 z, .int .i64 j] 40 (0, 0))
                    have HAt := Lib.hid (show Box (wr.alloc (.cells #[.int .i64 z, .int .i64 j] 40 (0, 0))) wr.heap.size 40 [.int .i64 z, .int .i64 j] from Box.new _ _ _)
                    have HH2 := Lib.hid (And.intro (HH.out.1.on hbA) (And.intro (HH.out.2.1.on hbA) (HH.out.2.2.on hbA)))
                    have hlt6 : wr.heap.size < (wr.alloc (.cells #[.int .i64 z, .int .i64 j] 40 (0, 0))).heap.size := by simp
                    have hA5 : ¬ T5 wr.heap.size := fun h => by have := (HH.out.1.bo.tl _ h).1; omega
                    clear hbA HH
                    generalize World.alloc _ _ = w6 at *
                    have hc := read_any (T := TN T5 w6) ((z : Int), (j : Int)) ⟨(w64 (by omega) (by omega) : W64 (z : Int)), (w64 (by omega) (by omega) : W64 (j : Int))⟩ HH2.out.1.hT HN2.out.ok HH2.out.1.bo.open
                    rw [HR.out] at hc
                    refine hc.mono ?_
                    rintro e w7 ⟨rfl, hI, hF⟩
                    have HS := Lib.hid (And.intro (HH2.out.1.play hI hF) (And.intro (HH2.out.2.1.play hF) (HH2.out.2.2.play hF)))
                    have HAt7 := Lib.hid (HAt.out.same (hF.same HAt.out.lt fun ht => ht.elim hA5 fun hs => by omega))
                    have HQ := Lib.hid ((HPg.out ((z : Int), (j : Int))).trans (page_sim HSi.out (a := ((z : Int), (j : Int))) (by rw [HG.out.1]; exact hzc) (by rw [HG.out.1, HG.out.2.2.1]; show (z : Int) < _; omega)))
                    have HPl := Lib.hid (page_len HN2.out.ok ((z : Int), (j : Int)))
                    clear hc hI hF HR HAt HH2 hA5 hlt6
                    generalize hTT : (fun k => TN T5 w6 k ∧ k < w7.heap.size) = T6 at HS
                    clear hTT
                    generalize pageD D2 ((z : Int), (j : Int)) = p1 at HQ HPl ⊢
                    generalize wr.heap.size = ba at *
                    obtain ⟨m8, hm8, hsz8⟩ := big_size (P := Try.prog) (t := 42) (s := 64) (by kernel_rfl)
                    have hm80 : ¬ m8 = 0 := by omega
                    have HM8 := Lib.hid hm8
                    clear hm8
                    go_wp2_with (first
                      | ((with_reducible refine wpList_pg_alloc (o := ⟨some 15, .alloc _, _, _, _, _⟩) rfl rfl ?_); intro w8 x8 hB8 hs8)
                      | ((with_reducible refine wpList_pg_store (o := ⟨none, .store _ _ _, _, _, _, _⟩) rfl _ _ rfl w7.heap.size p1 pg0 HPl.out rfl rfl rfl x8 ?_); intro w9 x9 hg9 hs9; have HB9 := Lib.hid (below_stored hB8 hg9 (by omega) (Nat.le_refl _)); clear hs9 hs8 hB8 x8 hg9)
                      | fail)
                    have HX9 := Lib.hid x9
                    replace HS := Lib.hid (And.intro (HS.out.1.on HB9.out) (And.intro (HS.out.2.1.on HB9.out) (HS.out.2.2.on HB9.out)))
                    replace HAt7 := Lib.hid (HAt7.out.on HB9.out)
                    clear x9 HB9
                    generalize w7.heap.size = bp at *
                    obtain ⟨_, _, _, ⟨As, ns, cs, es, hls, hws, _⟩, ⟨Ac, nc, cc, ec, hlc, hwc, _⟩, hsum, _⟩ := HS.out.1.bo.dsk
                    have HPC := Lib.hid fun (W : World) (hb : Below w9.heap.size w9 W) => (show Calls Try.prog 16 #[.agg (kcs v).toArray, .agg #[.int .i64 z, .int .i64 j]] W fun e w' => e = .returned (.agg (bs p1).toArray) ∧ Below W.heap.size W w' from by
                      rw [HQ.out]
                      exact dpage_any v ((z : Int), (j : Int)) As Ac ns cs nc cc d.safe d.cached W es ec hls hlc (by omega) (by omega) hws hwc ((HS.out.1.bo.dsk.on hb).srow es).2.2.row ((HS.out.1.bo.dsk.on hb).crow ec).2.2.row)
                    clear es hls hws ec hlc hwc hsum
                    refine wp_region_class (fun w' => Below w9.heap.size w9 w') (by kernel_rfl) (by kernel_rfl) (Below.refl _ _).drew ?_
                    intro X hX f hf hg
                    have l15 : ∀ x, Sem.run Try.prog (loadCellsFrom ⟨bp, 0, none⟩ 0 m8 #[]) (f x) = .ok (bs p1).toArray (f x) := fun x => big_load0 Try.prog bp 0 (bs p1) m8 (by rw [bs_length, HPl.out, HM8.out]) (f x) (HX9.out.on (hf x)).range0
                    have l8 : ∀ x, Sem.run Try.prog (loadCellsFrom ⟨g, 0, none⟩ 0 mk #[]) (f x) = .ok (kcs v).toArray (f x) := fun x => big_load0 Try.prog g 0 (kcs v) mk (by rw [HMK.out]; rfl) (f x) (HS.out.1.dx.on (hf x)).range0
                    have cA0 : ∀ x, (f x).cell? ⟨ba, 0, none⟩ = some (.int .i64 z) := fun x => (HAt7.out.on (hf x)).cell 0
                    have cA1 : ∀ x, (f x).cell? ⟨ba, 1, none⟩ = some (.int .i64 j) := fun x => (HAt7.out.on (hf x)).cell 1
                    have Hf := Lib.hid hf
                    have Hg := Lib.hid hg
                    clear hf hg
                    have hq : ∀ w', _ := fun w' => pg_equal w' p1 p1 HPl.out HPl.out
                    rw [beq_self_eq_true] at hq
                    have hgd := pg_guard
                    try simp only [Act.put, List.setIfInBounds_toArray, List.set_cons_succ, List.set_cons_zero]
                    repeat (go_big_quiet_step ((go_at_call 16; exact calls_class (HPC.out _ (Hf.out _)) (fun _ hb => Hg.out _ ((Hf.out _).trans (hb.mono (Hf.out _).size))))))
                    refine wpQuiet_nil ?_
                    rintro _ ⟨x, rfl⟩
                    have HB1 := Lib.hid (Hf.out x)
                    clear l15 l8 cA0 cA1 Hf Hg hX hq
                    generalize f x = W1 at HB1 ⊢
                    go_wp2
                    go_roundw
                    case rel => exact ⟨j + 1, T6, by omega, by go_num, HS.out.1.on HB1.out, HS.out.2.1.on HB1.out, HS.out.2.2.on HB1.out⟩
                    case measure => simp [intOf]; omega
                  · have hjp2 : ¬ (j : Int) < pt := hjp
                    go_wp2_with fail
                    go_roundw
                    case rel => exact ⟨z + 1, T5, by omega, by go_num, HH.out⟩
                    case measure => simp [intOf]; omega
              · obtain rfl : nn = z := by omega
                obtain ⟨gz, cz, lb, cv, nb, hDb, _, hcv, _⟩ := HH.out.1.bo.dev
                obtain ⟨A5, c5, rfl⟩ := own_slice hcv
                rw [HD2.out.2.1, List.length_nil] at hDb
                have HCa := Lib.hid (cached_any hDb)
                have hLl : D2.L.length = nn := by have := HN2.out.ok.fit.1; rw [HC.out.1, HC.out.2.2.1] at this; omega
                have HFt := Lib.hid (show Fit conv seq size opn D2.L from by
                  have h := HN2.out.ok.fit
                  obtain ⟨e1, _, e3, e4, e5⟩ := HC.out
                  rw [e1, e3, e4, e5] at h
                  exact h)
                have HOs := Lib.hid (show Some conv seq size from ⟨HOk.out.1, HOk.out.2.1, HOk.out.2.2.1, HOk.out.2.2.2.1, HOk.out.2.2.2.2.1⟩)
                have HLl := Lib.hid hLl
                clear hDb hcv hLl
                go_wp2_with fail
                refine HCa.out.mono ?_
                rintro e w11 ⟨rfl, rfl⟩
                have c0 := HH.out.1.gx.cell 0
                have c1 := HH.out.1.gx.cell 1
                have c2 := HH.out.1.gx.cell 2
                have c3 := HH.out.1.gx.cell 3
                have c4 := HH.out.1.gx.cell 4
                simp only [List.getElem?_cons_zero, List.getElem?_cons_succ] at c0 c1 c2 c3 c4
                go_wp2_with fail
                refine (rzright_any conv soft seq size opn _ nn _ D2.L _ (by simp only [maxLen]; omega) HLl.out HOs.out HH.out.2.2.rd).mono ?_
                rintro e w12 ⟨rfl, hb⟩
                rw [fit_yes HFt.out]
                have HBl := Lib.hid (bthen HH.out.1.bl hb)
                clear hb
                go_wp2
                go_ret
                exact ⟨rfl, HBl.out⟩
end Go.Proofs.Ytkdhibjmfanhcaa

/-
  Layer 10: the law LiveAgain.
-/
import Derived.Test.YtajehmdmgkhkpaaLvQ
namespace Go.Proofs.Ytajehmdmgkhkpaa
open Go.RowKit Geom Lv
set_option linter.unusedVariables false

set_option maxRecDepth 100000 in
set_option maxHeartbeats 4000000 in
theorem lvlaw_again (conv soft seq size opn : Int) (A : Option Addr) (len cap : Nat) (ps : List Int) (place block : Int) (w : World) (hts : ps.length = len) (hp64 : W64 place) (hr : Rd w w.heap.size A (is ps)) :
    Calls Try.prog 6 #[.agg #[.int .i64 conv, .int .i64 soft, .int .i64 seq, .int .i64 size, .int .i64 opn], .slice A len cap, .int .i64 place, .int .i64 block] w fun e w' => e = .returned (.bool true) ∧ Below w.heap.size w w' := by
  have HP64 := Lib.hid hp64
  clear hp64
  have hbox := Lies.new w conv soft seq size opn 23 (0, 0)
  have hb0 : Below w.heap.size w (w.alloc (.cells #[.int .i64 conv, .int .i64 soft, .int .i64 seq, .int .i64 size, .int .i64 opn] 23)) := below_alloc1 (Below.refl _ _)
  have hsz0 : (w.alloc (.cells #[.int .i64 conv, .int .i64 soft, .int .i64 seq, .int .i64 size, .int .i64 opn] 23)).heap.size = w.heap.size + 1 := by simp
  have hr0 := (hr.below hb0).more hb0.size
  have HTs := Lib.hid hts
  clear hr hts
  go_enter Try.func6, Try.ntmps6
  go_wp2_with fail
  generalize World.alloc _ _ = w0 at hbox hb0 hsz0 hr0 ⊢
  have SO := Lib.hid fun w' (h : Below w0.heap.size w0 w') => (⟨(hbox.below h).1, (hbox.below h).2.1, (hbox.below h).2.2.1, (hbox.below h).2.2.2.1, (hbox.below h).2.2.2.2.1⟩ :
    w'.cell? ⟨w.heap.size, 0, none⟩ = some (.int .i64 conv) ∧ w'.cell? ⟨w.heap.size, 1, none⟩ = some (.int .i64 soft) ∧ w'.cell? ⟨w.heap.size, 2, none⟩ = some (.int .i64 seq) ∧ w'.cell? ⟨w.heap.size, 3, none⟩ = some (.int .i64 size) ∧ w'.cell? ⟨w.heap.size, 4, none⟩ = some (.int .i64 opn))
  have H0 := Lib.hid (And.intro hb0 (And.intro hsz0 hr0))
  clear hbox hb0 hsz0 hr0
  refine (awake10_any w0).mono ?_
  rintro e w1 ⟨rfl, hb1⟩
  have B1 := Lib.hid hb1
  obtain ⟨c0, c1, c2, c3, c4⟩ := SO.out _ hb1
  clear hb1
  have HLi := Lib.hid (little_any conv soft seq size opn w1)
  cases hlit : litB conv soft seq size opn
  · rw [hlit] at HLi
    go_wp2_with fail
    refine HLi.out.mono ?_
    rintro e w2 ⟨rfl, hb2⟩
    have B2 := Lib.hid (bthen B1.out hb2)
    clear c0 c1 c2 c3 c4 hb2
    go_wp2_with fail
    refine (awake10_any w2).mono ?_
    rintro e w3 ⟨rfl, hb9⟩
    have B9 := Lib.hid (bthen B2.out hb9)
    clear hb9
    go_wp2
    go_ret
    exact ⟨rfl, H0.out.1.trans (B9.out.mono H0.out.1.size)⟩
  rw [hlit] at HLi
  have HY := Lib.hid (lit_yes hlit)
  clear hlit
  go_wp2_with fail
  refine HLi.out.mono ?_
  rintro e w2 ⟨rfl, hb2⟩
  have B2 := Lib.hid (bthen B1.out hb2)
  clear c0 c1 c2 c3 c4 hb2 B1 HLi
  by_cases h60 : 60 < len
  · go_wp2_with fail
    refine (awake10_any w2).mono ?_
    rintro e w3 ⟨rfl, hb9⟩
    have B9 := Lib.hid (bthen B2.out hb9)
    clear hb9
    go_wp2
    go_ret
    exact ⟨rfl, H0.out.1.trans (B9.out.mono H0.out.1.size)⟩
  have hlen : len ≤ 60 := by omega
  have hleI : (len : Int) ≤ 60 := by omega
  have HLen := Lib.hid hlen
  clear h60
  obtain ⟨c0, c1, c2, c3, c4⟩ := SO.out _ B2.out
  have hO := lvof_any conv soft seq size opn w2 HY.out.1 A cap ps (by rw [HTs.out]; omega) ((H0.out.2.2.below B2.out).more B2.out.size)
  rw [HTs.out] at hO
  cases hof : ofK seq size ps len with
  | none =>
    rw [hof] at hO
    have HO := Lib.hid hO
    clear hO hof
    go_wp2_with fail
    refine HO.out.mono ?_
    rintro e w3 ⟨hq, hb3⟩
    obtain rfl := lvof_none hq
    have B3 := Lib.hid (B2.out.trans (hb3.mono B2.out.size))
    clear hq hb3 HO B2 c0 c1 c2 c3 c4
    go_wp2
    go_ret
    exact ⟨rfl, H0.out.1.trans (B3.out.mono H0.out.1.size)⟩
  | some l0 =>
    rw [hof] at hO
    have HO := Lib.hid hO
    have HOF := Lib.hid hof
    clear hO hof
    go_wp2_with fail
    refine HO.out.mono ?_
    rintro e w3 ⟨hq, hb3⟩
    obtain ⟨d, b, c, rfl, t3, hd3, hbb3, hc3⟩ := lvof_some hq
    have L3 : Hid (LSv w0 w3 d b c len conv soft seq size opn l0) := Lib.hid ⟨B2.out.trans (hb3.mono B2.out.size), t3, by have := B2.out.size; omega, by have := B2.out.size; omega⟩
    clear hq hb3 t3 hd3 hbb3 hc3 HO B2 c0 c1 c2 c3 c4
    obtain ⟨c0, c1, c2, c3, c4⟩ := SO.out _ L3.out.1
    have HAt := fun w' => rat_any conv soft seq size opn place w' HY.out.2.1 (wf_i64 HP64.out)
    by_cases hin : 1 ≤ place ∧ place ≤ seq * size
    · have HE := again_yes (block := block) (x := 0) L3.out.2.1.wl hin
      rw [isB_iff.2 hin] at HAt
      generalize zoneOf conv seq size place = pz at HAt
      generalize offOf seq size place = po at HAt
      have HAt := Lib.hid HAt
      go_wp2_with fail
      refine (HAt.out _).mono ?_
      rintro e w4 ⟨rfl, hb4⟩
      have L4 := Lib.hid ((L3.out.on hb4).on ((Below.refl _ _).alloc (Nat.le_refl _) (.cells #[.int .i64 pz, .int .i64 po] 50)))
      clear hb4 c0 c1 c2 c3 c4 HAt
      have hD := lvdrop_any _ place 0 L4.out.2.1 (by have := HLen.out; omega)
      rw [HE.1] at hD
      generalize (doM seq size l0 place 0 true).2 = hd at hD
      have HD := Lib.hid hD
      clear hD
      go_wp2_with fail
      refine HD.out.mono ?_
      rintro e w5 ⟨rfl, t5, f5⟩
      have L5 := Lib.hid (L4.out.put t5 f5)
      clear t5 f5 HD
      have hA := lvadd_any w5 place block L5.out.2.1 (by have := HLen.out; omega)
      rw [HE.2] at hA
      have HA := Lib.hid hA

      clear hA HE
      go_wp2_with fail
      refine HA.out.mono ?_
      rintro e w6 ⟨rfl, t6, f6⟩
      have L6 := Lib.hid (L5.out.put t6 f6)
      clear t6 f6 HA L5 L4 L3
      go_wp2
      go_loopw [15, 16] (fun V i wr => ∃ k : Nat, k ≤ len ∧ i = .int .i64 k ∧ wr.ownsRow w6.heap.size 31 2 V (agK ps place k).length (ccs (agK ps place k)) ∧ Below w6.heap.size w6 wr) (fun _ i _ => len - (intOf i).toNat)
      case atStart => exact ⟨0, Nat.zero_le _, rfl, World.ownsRow_nil _ _ _ _, Below.refl _ _⟩
      case round =>
        obtain ⟨k, hk, rfl, hown, hbl⟩ := hrel
        have HW := Lib.hid (And.intro hown hbl)
        have HNl := Lib.hid (agK_len (ps := ps) (place := place) k)
        clear hown hbl
        by_cases hlt : k < len
        · have hki : (k : Int) < (len : Int) := by omega
          obtain ⟨ad, rfl, _, ck⟩ := (H0.out.2.2.below (L6.out.on HW.out.2).1).at (is_get (zs := ps) (k := k) (by rw [HTs.out]; exact hlt))
          by_cases h0 : ps.getD k 0 = 0
          · have HN := Lib.hid (agK_zero (place := place) h0)
            rw [h0] at ck
            clear h0
            go_wp2
            go_roundw
            case rel => exact ⟨k + 1, by omega, by go_num, by rw [HN.out]; exact HW.out.1, HW.out.2⟩
            case measure => first | (simp [intOf]; done) | (simp [intOf]; omega)
          · have h0b : (ps.getD k 0 != 0) = true := by simpa using h0
            by_cases hp : ps.getD k 0 = place
            · have HN := Lib.hid (agK_same hp)
              rw [hp] at ck h0b
              have hpb : (place != place) = false := by simp
              clear h0 hp
              go_wp2
              go_roundw
              case rel => exact ⟨k + 1, by omega, by go_num, by rw [HN.out]; exact HW.out.1, HW.out.2⟩
              case measure => first | (simp [intOf]; done) | (simp [intOf]; omega)
            · have HN := Lib.hid (agK_yes h0 hp)
              have hpb : (ps.getD k 0 != place) = true := by simpa using hp
              clear h0 hp
              generalize ps.getD k 0 = x at *
              have hown := HW.out.1
              have hbl := HW.out.2
              have hsz' := hbl.size
              have hnl := HNl.out
              go_wp2_with (at_builtin; go_loud (refine wpList_append_new _ rfl _ _ _ rfl w6.heap.size 31 _ 2 16 elemC u15 (agK ps place k).length _ rfl [.int .i64 x, .int .i64 (k : Int)] rfl hown rfl (by simp [Value.oneCell']) (by have := HLen.out; simp only [maxLen]; omega) (by have := HLen.out; omega) hsz' ?_); intro v1 w7 hown1 hg1; have HZ := Lib.hid (And.intro hown1 (hbl.grown hg1 hsz' fun g hg => (hown.lt g hg).1)); clear hown1 hg1 hown hbl hsz' hnl)
              go_roundw
              case rel =>
                refine ⟨k + 1, by omega, by go_num, ?_, HZ.out.2⟩
                rw [HN.out, List.length_append, ccs_append]
                exact HZ.out.1
              case measure => first | (simp [intOf]; done) | (simp [intOf]; omega)
        · obtain rfl : len = k := by omega
          have HAG := Lib.hid (ofK_ag (place := place) HOF.out)
          have hown := HW.out.1
          have hbl := HW.out.2
          have hsz' := hbl.size
          have hnl := HNl.out
          cases hd
          all_goals
            go_wp2_with (at_builtin; go_loud (refine wpList_append_new _ rfl _ _ _ rfl w6.heap.size 31 _ 2 16 elemC u15 (agK ps place len).length _ rfl [.int .i64 place, .int .i64 block] rfl hown rfl (by simp [Value.oneCell']) (by simp only [maxLen]; omega) (by omega) hsz' ?_); intro v1 w7 hown1 hg1; have HZ := Lib.hid (And.intro hown1 (hbl.grown hg1 hsz' fun g hg => (hown.lt g hg).1)); clear hown1 hg1 hown hbl hsz' hnl; have L7 := Lib.hid (L6.out.on HZ.out.2); obtain ⟨c0, c1, c2, c3, c4⟩ := SO.out _ L7.out.1)
            have HV : Hid (ClIs w7 v1 (er l0 place ++ [(place, block)])) := Lib.hid (ClIs.of (n := (agK ps place len).length + 1) (by
              have h1 := HZ.out.1
              rw [HAG.out] at h1
              rw [ccs_append, HAG.out]
              exact h1) (by rw [HAG.out]; simp))
            have HSh := Lib.hid (shows_any conv soft seq size opn w7 HY.out.2.2.1 v1 (er l0 place ++ [(place, block)]) (by have := L7.out.2.1.hl; have := HLen.out; omega) HV.out (wl_w64 L7.out.2.1.ok L7.out.2.1.wl) L7.out.2.1)
            clear HZ
            refine HSh.out.mono ?_
            rintro e w9 ⟨rfl, hb9⟩
            have B9 := Lib.hid (L7.out.1.trans (hb9.mono L7.out.1.size))
            clear hb9
            go_wp2
            go_ret
            exact ⟨rfl, H0.out.1.trans (B9.out.mono H0.out.1.size)⟩
    · have HE := again_no (block := block) (x := 0) L3.out.2.1.wl hin
      have hib : isB seq size place = false := by
        cases h : isB seq size place
        · rfl
        · exact absurd (isB_iff.1 h) hin
      rw [hib] at HAt
      clear hib
      generalize zoneOf conv seq size place = pz at HAt
      generalize offOf seq size place = po at HAt
      have HAt := Lib.hid HAt
      go_wp2_with fail
      refine (HAt.out _).mono ?_
      rintro e w4 ⟨rfl, hb4⟩
      have L4 := Lib.hid ((L3.out.on hb4).on ((Below.refl _ _).alloc (Nat.le_refl _) (.cells #[.int .i64 pz, .int .i64 po] 50)))
      clear hb4 c0 c1 c2 c3 c4 HAt
      have hD := lvdrop_any _ place 0 L4.out.2.1 (by have := HLen.out; omega)
      rw [HE.1] at hD
      have HD := Lib.hid hD
      clear hD
      go_wp2_with fail
      refine HD.out.mono ?_
      rintro e w5 ⟨rfl, t5, f5⟩
      have L5 := Lib.hid (L4.out.put t5 f5)
      clear t5 f5 HD
      have hA := lvadd_any w5 place block L5.out.2.1 (by have := HLen.out; omega)
      rw [HE.2.1] at hA
      have HA := Lib.hid hA
      have HE3 := Lib.hid HE.2.2
      clear hA HE
      go_wp2_with fail
      refine HA.out.mono ?_
      rintro e w6 ⟨rfl, t6, f6⟩
      have L6 := Lib.hid (L5.out.put t6 f6)
      clear t6 f6 HA L5 L4 L3
      go_wp2
      go_loopw [15, 16] (fun V i wr => ∃ k : Nat, k ≤ len ∧ i = .int .i64 k ∧ wr.ownsRow w6.heap.size 31 2 V (agK ps place k).length (ccs (agK ps place k)) ∧ Below w6.heap.size w6 wr) (fun _ i _ => len - (intOf i).toNat)
      case atStart => exact ⟨0, Nat.zero_le _, rfl, World.ownsRow_nil _ _ _ _, Below.refl _ _⟩
      case round =>
        obtain ⟨k, hk, rfl, hown, hbl⟩ := hrel
        have HW := Lib.hid (And.intro hown hbl)
        have HNl := Lib.hid (agK_len (ps := ps) (place := place) k)
        clear hown hbl
        by_cases hlt : k < len
        · have hki : (k : Int) < (len : Int) := by omega
          obtain ⟨ad, rfl, _, ck⟩ := (H0.out.2.2.below (L6.out.on HW.out.2).1).at (is_get (zs := ps) (k := k) (by rw [HTs.out]; exact hlt))
          by_cases h0 : ps.getD k 0 = 0
          · have HN := Lib.hid (agK_zero (place := place) h0)
            rw [h0] at ck
            clear h0
            go_wp2
            go_roundw
            case rel => exact ⟨k + 1, by omega, by go_num, by rw [HN.out]; exact HW.out.1, HW.out.2⟩
            case measure => first | (simp [intOf]; done) | (simp [intOf]; omega)
          · have h0b : (ps.getD k 0 != 0) = true := by simpa using h0
            by_cases hp : ps.getD k 0 = place
            · have HN := Lib.hid (agK_same hp)
              rw [hp] at ck h0b
              have hpb : (place != place) = false := by simp
              clear h0 hp
              go_wp2
              go_roundw
              case rel => exact ⟨k + 1, by omega, by go_num, by rw [HN.out]; exact HW.out.1, HW.out.2⟩
              case measure => first | (simp [intOf]; done) | (simp [intOf]; omega)
            · have HN := Lib.hid (agK_yes h0 hp)
              have hpb : (ps.getD k 0 != place) = true := by simpa using hp
              clear h0 hp
              generalize ps.getD k 0 = x at *
              have hown := HW.out.1
              have hbl := HW.out.2
              have hsz' := hbl.size
              have hnl := HNl.out
              go_wp2_with (at_builtin; go_loud (refine wpList_append_new _ rfl _ _ _ rfl w6.heap.size 31 _ 2 16 elemC u15 (agK ps place k).length _ rfl [.int .i64 x, .int .i64 (k : Int)] rfl hown rfl (by simp [Value.oneCell']) (by have := HLen.out; simp only [maxLen]; omega) (by have := HLen.out; omega) hsz' ?_); intro v1 w7 hown1 hg1; have HZ := Lib.hid (And.intro hown1 (hbl.grown hg1 hsz' fun g hg => (hown.lt g hg).1)); clear hown1 hg1 hown hbl hsz' hnl)
              go_roundw
              case rel =>
                refine ⟨k + 1, by omega, by go_num, ?_, HZ.out.2⟩
                rw [HN.out, List.length_append, ccs_append]
                exact HZ.out.1
              case measure => first | (simp [intOf]; done) | (simp [intOf]; omega)
        · obtain rfl : len = k := by omega
          have HAG := Lib.hid (ofK_ag (place := place) HOF.out)
          have HV : Hid (ClIs wr u15 l0) := Lib.hid (ClIs.of (n := (agK ps place len).length) (by
            have h1 := HW.out.1
            rw [HAG.out, HE3.out] at h1
            rw [HAG.out, HE3.out]
            exact h1) (by rw [HAG.out, HE3.out]))
          have L7 := Lib.hid (L6.out.on HW.out.2)
          have HSh := Lib.hid (shows_any conv soft seq size opn wr HY.out.2.2.1 u15 (l0) (by have := L7.out.2.1.hl; have := HLen.out; omega) HV.out (wl_w64 L7.out.2.1.ok L7.out.2.1.wl) L7.out.2.1)
          obtain ⟨c0, c1, c2, c3, c4⟩ := SO.out _ L7.out.1
          go_wp2_with fail
          refine HSh.out.mono ?_
          rintro e w9 ⟨rfl, hb9⟩
          have B9 := Lib.hid (L7.out.1.trans (hb9.mono L7.out.1.size))
          clear hb9
          go_wp2
          go_ret
          exact ⟨rfl, H0.out.1.trans (B9.out.mono H0.out.1.size)⟩
end Go.Proofs.Ytajehmdmgkhkpaa

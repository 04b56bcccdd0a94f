/-
  Layer 9: the law TableOfs.
-/
import Derived.Test.YtcligeajgbibnaaTbV
namespace Go.Proofs.Ytcligeajgbibnaa
open Go.RowKit Leaf Tbl
set_option linter.unusedVariables false

set_option maxRecDepth 100000 in
set_option maxHeartbeats 4000000 in
theorem tblaw_ofs (b : Int) (A : Option Addr) (len cap : Nat) (ls : List Lf) (gen : Int) (w : World) (hm : len ≤ maxLen) (hls : ls.length = len) (hin : ∀ l ∈ ls, In l) (hr : Rd w w.heap.size A (lfls ls)) :
    Calls Try.prog 4 #[.int .i64 b, .slice A len cap, .int .i64 gen] w fun e w' => e = .returned (.bool true) ∧ Below w.heap.size w w' := by
  have HTs := Lib.hid hls
  have HRd := Lib.hid hr
  have HIn := Lib.hid hin
  clear hls hr hin
  go_enter Try.func4, Try.ntmps4
  go_wp2_with fail
  refine (awake9_any w).mono ?_
  rintro e w1 ⟨rfl, hb1⟩
  have B1 := Lib.hid hb1
  have R1 := Lib.hid ((HRd.out.below hb1).more hb1.size)
  clear hb1
  by_cases h100 : 500 < len
  · go_wp2_with fail
    refine (awake9_any w1).mono ?_
    rintro e w2 ⟨rfl, hb2⟩
    have B2 := Lib.hid (bthen B1.out hb2)
    clear hb2
    go_wp2
    go_ret
    exact ⟨rfl, B2.out⟩
  have hlen : len ≤ 500 := by omega
  cases hrt : rightN b
  · have HA := Lib.hid (tof_arg b A len cap w1 hrt)
    go_wp2_with fail
    refine HA.out.mono ?_
    rintro e w2 ⟨rfl, rfl⟩
    have HB := Lib.hid (rof_arg b A len cap w1 hrt)
    go_wp2_with fail
    refine HB.out.mono ?_
    rintro e w2 ⟨rfl, rfl⟩
    go_wp2
    go_ret
    exact ⟨rfl, B1.out⟩
  · obtain ⟨n, rfl, hn⟩ : ∃ n : Nat, b = n ∧ n ≤ 4096 := by
      unfold rightN at hrt
      simp at hrt
      exact ⟨b.toNat, by omega, by omega⟩
    have HO := Lib.hid (tof_any n A cap ls w1 hn HIn.out (by rw [HTs.out]; omega) R1.out)
    rw [HTs.out] at HO
    go_wp2_with fail
    refine HO.out.mono ?_
    rintro e w2 ⟨hpost, hb2⟩
    have B2 := Lib.hid (B1.out.trans (hb2.mono B1.out.size))
    have R2 := Lib.hid ((R1.out.below hb2).more hb2.size)
    have S1 := Lib.hid B1.out.size
    clear hb2 HO B1 R1
    have HQ := Lib.hid (rof_any n A cap ls w2 hn HIn.out (by rw [HTs.out]; omega) R2.out)
    rw [HTs.out] at HQ
    cases hres : ofT n ls with
    | none =>
      rw [hres] at hpost
      have he : e = .returned (.tuple #[.pointer none, .int .i64 7]) := hpost
      have HNo := Lib.hid (of_none HIn.out hres)
      subst he
      clear hpost hres
      go_wp2_with fail
      refine HQ.out.mono ?_
      rintro e w3 ⟨hp3, hb3⟩
      have B3 := Lib.hid (B2.out.trans (hb3.mono B2.out.size))
      clear hb3
      rcases hp3 with ⟨_, rfl⟩ | ⟨hy, _⟩
      · go_wp2
        go_ret
        exact ⟨rfl, B3.out⟩
      · exact absurd hy HNo.out
    | some ys =>
      rw [hres] at hpost
      obtain ⟨d, g, h, he, t2, hd2, hg2, hh2⟩ := hpost
      obtain ⟨hok, hyt, hyl, hyz, _⟩ := of_rof HIn.out hres
      have HOk := Lib.hid (And.intro hok hyt)
      have HYs := Lib.hid (And.intro hyl hyz)
      subst he
      have L2 : Hid (LSt w w2 d g h n ys (List.replicate (pages n) false)) := Lib.hid ⟨B2.out, t2⟩
      clear t2 hres hok hyt hyl hyz hd2 hg2 hh2
      go_wp2_with fail
      refine HQ.out.mono ?_
      rintro e w3 ⟨hp3, hb3⟩
      have L3 := Lib.hid (L2.out.on hb3)
      clear hb3 L2 B2 HQ
      rcases hp3 with ⟨hno, _⟩ | ⟨_, V, rfl, hown⟩
      · exact absurd HOk.out.1 hno
      rw [HOk.out.2] at hown
      have hxl : (ys.take n).length = n := by rw [List.length_take, HYs.out.1]; have := pages_up n; omega
      rw [hxl] at hown
      obtain ⟨AV, cV, rfl⟩ := own_slice hown
      have O3 := Lib.hid hown
      have HXl := Lib.hid hxl
      clear hown hxl
      go_wp2_with fail
      have HP := Lib.hid (tplaces_any w3 L3.out.2)
      refine HP.out.mono ?_
      rintro e w4 ⟨b4, rfl, x4, hb4, hbl4⟩
      have L4 := Lib.hid (L3.out.on hbl4)
      have O4 := Lib.hid (own_below O3.out hbl4)
      have X4 := Lib.hid x4
      clear x4 hb4 hbl4 HP L3 O3
      go_wp2_with fail
      refine (isame_any (some ⟨b4, 0, none⟩) AV n n n cV w4 (by unfold maxLen; omega) (by unfold maxLen; omega) (ys.take n) (ys.take n) HXl.out HXl.out w4.heap.size (X4.out.rd X4.out.lt) (Rd.own O4.out)).mono ?_
      rw [beq_self_eq_true]
      rintro e w5 ⟨rfl, q5, rfl⟩
      have L5 := Lib.hid (L4.out.drewN q5)
      have O5 := Lib.hid (own_drewN O4.out q5)
      clear L4 O4 X4
      generalize w4.drewN q5 = w5 at *
      have HD := Lib.hid (tdirty_any w5 L5.out.2)
      rw [idxs_clean] at HD
      go_wp2_with fail
      refine HD.out.mono ?_
      rintro e w6 ⟨V6, rfl, hown6, hb6⟩
      obtain ⟨A6, c6, rfl⟩ := own_slice hown6
      have L6 := Lib.hid (L5.out.on hb6)
      have O6 := Lib.hid (own_below O5.out hb6)
      clear hown6 hb6 HD L5 O5
      have HLv := Lib.hid (tleaves_any w6 gen L6.out.2)
      go_wp2_with fail
      refine HLv.out.mono ?_
      rintro e w7 ⟨b7, rfl, x7, hb7, hbl7⟩
      have L7 := Lib.hid (L6.out.on hbl7)
      have O7 := Lib.hid (own_below O6.out hbl7)
      have X7 := Lib.hid x7
      clear x7 hb7 hbl7 HLv L6 O6
      have HRl := Lib.hid (rleaves_any AV n cV (ys.take n) gen w7 (by omega) HXl.out (Rd.own O7.out))
      rw [padT_back HYs.out.1 HYs.out.2] at HRl
      go_wp2_with fail
      refine HRl.out.mono ?_
      rintro e w8 ⟨V8, rfl, hown8, hb8⟩
      obtain ⟨A8, c8, rfl⟩ := own_slice hown8
      have L8 := Lib.hid (L7.out.on hb8)
      have X8 := Lib.hid (X7.out.below hb8 X7.out.lt)
      have O8 := Lib.hid hown8
      have HI8 := Lib.hid (lfsOf_in (gen := gen) HYs.out.1)
      have HL8 := Lib.hid (lfsOf_length ys gen (pages n))
      have hpg := pages_le hn
      clear hown8 hb8 HRl L7 O7 X7
      go_wp2_with fail
      refine (isameLeaves_any (some ⟨b7, 0, none⟩) A8 (pages n) (pages n) (pages n) c8 w8 (by unfold maxLen; omega) (by unfold maxLen; omega) _ _ HL8.out HL8.out HI8.out HI8.out w8.heap.size (X8.out.rd X8.out.lt) (Rd.own O8.out)).mono ?_
      rintro e w9 ⟨⟨bb, rfl, hbb⟩, q9, rfl⟩
      obtain rfl : bb = true := hbb.2 rfl
      have L9 := Lib.hid (L8.out.drewN q9)
      clear hbb
      go_wp2
      go_ret
      exact ⟨rfl, L9.out.1⟩
end Go.Proofs.Ytcligeajgbibnaa

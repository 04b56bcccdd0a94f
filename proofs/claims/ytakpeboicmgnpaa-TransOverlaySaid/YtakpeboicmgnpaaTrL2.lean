/-
  The law TransOverlay of layer 18.
-/
import Derived.Test.YtakpeboicmgnpaaTrX
namespace Go.Proofs.Ytakpeboicmgnpaa
open Go.RowKit Word Tran
set_option linter.unusedVariables false

/-- what stands in memory in the loop -/
structure OvSt (w wr : World) (b5 b6 : Nat) (ws : List Wt) (A : Option Addr) (c : Nat) (y : Wt) : Prop where
  bx : TBx w wr [(b6, 28, twc y), (b5, 24, tnc ⟨⟨0, 0, ws⟩, A, c⟩)]
  own : wr.ownsRow (b6 + 1) 28 34 (.slice A ws.length c) ws.length (tws ws)
  lo : w.heap.size ≤ b5 ∧ b5 < b6
section
variable {w wr w' w2 : World} {b5 b6 c c' : Nat} {ws ws' : List Wt} {A A' : Option Addr} {y y' : Wt}
theorem OvSt.on (h : OvSt w wr b5 b6 ws A c y) (hb : Below wr.heap.size wr w') : OvSt w w' b5 b6 ws A c y := ⟨h.bx.on hb, own_below h.own hb, h.lo⟩
theorem OvSt.t (h : OvSt w wr b5 b6 ws A c y) (hown : wr.ownsRow (b6 + 1) 28 34 (.slice A' ws'.length c') ws'.length (tws ws')) (hx : Box w2 b5 24 (tnc ⟨⟨0, 0, ws'⟩, A', c'⟩)) (hg : wr.grownBy w2 (some b5)) : OvSt w w2 b5 b6 ws' A' c' y := by
  have h2 := h.lo.2
  refine ⟨⟨fun q hq => ?_, below_stored h.bx.2 hg h.bx.2.size h.lo.1⟩, trow_kept hown hg fun b hb e => ?_, h.lo⟩
  · rcases List.mem_cons.1 hq with rfl | hq
    · exact h.bx.head.grown hg (by omega)
    · rw [List.mem_singleton.1 hq]; exact hx
  · have := (hown.lt b hb).1
    injection e with e
    omega
theorem OvSt.wt (h : OvSt w wr b5 b6 ws A c y) (hx : Box w2 b6 28 (twc y')) (hg : wr.grownBy w2 (some b6)) : OvSt w w2 b5 b6 ws A c y' := by
  have h1 := h.lo.1
  have h2 := h.lo.2
  refine ⟨⟨fun q hq => ?_, below_stored h.bx.2 hg h.bx.2.size (by omega)⟩, trow_kept h.own hg fun b hb e => ?_, h.lo⟩
  · rcases List.mem_cons.1 hq with rfl | hq
    · exact hx
    · rw [List.mem_singleton.1 hq]; exact h.bx.tail.head.grown hg (by simp; omega)
  · have := (h.own.lt b hb).1
    injection e with e
    omega
end
/-- what the loop has laid -/
structure OvM (l : List Wt) (b : Int) (ws : List Wt) (y : Wt) (fd : Bool) : Prop where
  rise : Rise (keys ws)
  each : ∀ o ∈ ws, WIn o
  len : ws.length ≤ l.length
  yin : WIn y
  hf : fnd b ws = if fd then some (clean y) else none
  hn : fd = false → y = wt0
theorem OvM.nil (b : Int) : OvM [] b [] wt0 false := ⟨rise_nil, by simp, by simp, wt0_in, rfl, fun _ => rfl⟩
theorem OvM.yes {l ws : List Wt} {b : Int} {y o : Wt} {fd : Bool} {k : Nat} (h : OvM (l.take k) b ws y fd) (hk : l[k]? = some o) (ho : WIn o) (hb : o.b = b) : OvM (l.take (k + 1)) b (ins (clean o) ws) o true := by
  obtain ⟨hlt, rfl⟩ := List.getElem?_eq_some_iff.1 hk
  refine ⟨ins_rise h.rise, fun q hq => ?_, ?_, ho, ?_, fun e => by cases e⟩
  · rcases ins_mem hq with rfl | hq
    · exact clean_in ho
    · exact h.each q hq
  · rw [List.take_succ_eq_append_getElem hlt, List.length_append]
    exact Nat.le_trans (ins_length _ _) (Nat.add_le_add_right h.len 1)
  · rw [fnd_ins _ _ _ h.rise, clean_b, if_pos hb]; rfl
theorem OvM.no {l ws : List Wt} {b : Int} {y o : Wt} {fd : Bool} {k : Nat} (h : OvM (l.take k) b ws y fd) (hk : l[k]? = some o) (ho : WIn o) (hb : o.b ≠ b) : OvM (l.take (k + 1)) b (ins (clean o) ws) y fd := by
  obtain ⟨hlt, rfl⟩ := List.getElem?_eq_some_iff.1 hk
  refine ⟨ins_rise h.rise, fun q hq => ?_, ?_, h.yin, ?_, h.hn⟩
  · rcases ins_mem hq with rfl | hq
    · exact clean_in ho
    · exact h.each q hq
  · rw [List.take_succ_eq_append_getElem hlt, List.length_append]
    exact Nat.le_trans (ins_length _ _) (Nat.add_le_add_right h.len 1)
  · rw [fnd_ins _ _ _ h.rise, clean_b, if_neg hb]; exact h.hf
theorem OvM.got {l ws : List Wt} {b : Int} {y : Wt} {fd : Bool} (h : OvM l b ws y fd) : (fnd b ws).getD wt0 = clean y ∧ (fnd b ws).isSome = fd := by
  rw [h.hf]
  cases fd
  · rw [h.hn rfl]; exact ⟨rfl, rfl⟩
  · exact ⟨rfl, rfl⟩
set_option maxRecDepth 100000 in
set_option maxHeartbeats 8000000 in
theorem trlaw_overlay (A : Option Addr) (n cap : Nat) (l : List Wt) (b : Int) (w : World) (hn : l.length = n) (hmx : n ≤ maxLen) (hin : ∀ o ∈ l, WIn o) (hr : Rd w w.heap.size A (tws l)) :
    Calls Try.prog 5 #[.slice A n cap, .int .i64 b] w fun e w' => e = .returned (.bool true) ∧ Below w.heap.size w w' := by
  obtain ⟨m, hm34, hsz⟩ := big_size (P := Try.prog) (t := 28) (s := 34) (by kernel_rfl)
  have hm0 : ¬ m = 0 := by omega
  have HM := Lib.hid hm34
  have HN := Lib.hid hn
  have HX := Lib.hid (And.intro hin hr)
  have HZ := Lib.hid (TBx.nil w)
  clear hm34 hin hr hn
  go_enter Try.func5, Try.ntmps5
  go_wp2_with fail
  refine (awake18_any _).mono ?_
  rintro e w1 ⟨rfl, hb⟩
  have HT1 := Lib.hid (HZ.out.on hb)
  clear hb
  by_cases h60 : n ≤ 60
  rotate_left
  · go_wp2_with fail
    refine (awake18_any _).mono ?_
    rintro e wz ⟨rfl, hbz⟩
    have HZz := Lib.hid (bthen HT1.out.2 hbz)
    clear hbz
    go_wp2
    go_ret
    exact ⟨rfl, HZz.out⟩
  clear hmx
  go_wp2_with (first
    | ((with_reducible refine wpList_alloc_box _ (o := ⟨some 5, .alloc _, _, _, _, _⟩) rfl _ rfl (tnc tz) zero_tn ?_); intro w20 x20 B20 s20)
    | ((with_reducible refine wpList_store_var _ (o := ⟨none, .store _ (.tmp 5) _, _, _, _, _⟩) rfl 24 _ _ rfl w1.heap.size [.int .i64 0, .int .i64 0, .slice none 0 0] (tnc tz) (rp_size _ _ _ _ _) (rp_len _ _ _ _ _) (rp_one _ _ _ _ _) rfl rfl x20 ?_); go_loud (intro w2 x2 g2; have HT2 := Lib.hid (show TBx w w2 [(w1.heap.size, 24, tnc ⟨⟨0, 0, []⟩, none, 0⟩)] from HT1.out.made B20 g2 x2); have HL5 : Hid (w.heap.size ≤ w1.heap.size) := Lib.hid HT1.out.2.size; clear x20 B20 s20 g2 x2; generalize w1.heap.size = b5 at *))
    | ((with_reducible refine wpList_wt_alloc (o := ⟨some 6, .alloc _, _, _, _, _⟩) rfl rfl ?_); intro w3 x3 B3 s3; have HO : Hid (OvSt w w3 b5 w2.heap.size [] none 0 wt0) := Lib.hid ⟨HT2.out.add B3 x3, World.ownsRow_nil _ _ _ _, HL5.out, HT2.out.head.lt⟩; clear x3 B3 s3; generalize w2.heap.size = b6 at *)
    | fail)
  clear HT1 HT2 HL5
  go_loopw [7, 8] (fun v7 v8 wr => ∃ (k : Nat) (fd : Bool) (ws : List Wt) (A5 : Option Addr) (c5 : Nat) (y : Wt), v8 = .int .i64 k ∧ k ≤ n ∧ v7 = .bool fd ∧ Hid (OvM (l.take k) b ws y fd) ∧ Hid (OvSt w wr b5 b6 ws A5 c5 y)) (fun _ v8 _ => n - (intOf v8).toNat)
  case atStart => exact ⟨0, false, [], none, 0, wt0, rfl, by omega, rfl, Lib.hid (OvM.nil b), HO⟩
  case round =>
    clear HO
    obtain ⟨k, fd, ws, A5, c5, y, rfl, hk, rfl, HMa, HO⟩ := hrel
    by_cases hlt : k < n
    · have hkl : k < l.length := by rw [HN.out]; exact hlt
      have hlk : l[k]? = some (l[k]'hkl) := List.getElem?_eq_getElem hkl
      have HI := Lib.hid (HX.out.1 _ (List.getElem_mem hkl))
      have HY := Lib.hid (And.intro (fun h => HMa.out.yes hlk HI.out h) (fun h => HMa.out.no hlk HI.out h))
      have HWl : Hid (ws.length ≤ 60) := Lib.hid (by have h1 := HMa.out.len; rw [List.length_take] at h1; omega)
      have HLd := Lib.hid fun w' (hb : Below w.heap.size w w') => wt_load (m := m) (HX.out.2.below hb) HX.out.1 hlk HM.out
      have HLb := Lib.hid fun w' (hb : Below w.heap.size w w') => wt_b (m := m) (HX.out.2.below hb) HX.out.1 hlk HM.out
      generalize l[k]'hkl = o at *
      clear hlk hkl
      obtain ⟨ad, rfl, _, _⟩ := HLd.out wr HO.out.bx.2
      obtain ⟨LO, hLO⟩ : ∃ LO, LO = twc o := ⟨_, rfl⟩
      have HLO := Lib.hid hLO
      have HSO := Lib.hid fun w' (hb : Below wr.heap.size wr w') => (⟨tn_box ((HO.out.on hb).bx.tail.head), by
        obtain ⟨ad2, e, h, _⟩ := HLd.out w' (bthen HO.out.bx.2 hb)
        obtain rfl : ad = ad2 := by injection e
        rw [hLO]
        exact h⟩ : (w'.cell? ⟨b5, 0, none⟩ = some (.int .i64 0) ∧ w'.cell? ⟨b5, 1, none⟩ = some (.int .i64 0) ∧ w'.cell? ⟨b5, 2, none⟩ = some (.slice A5 ws.length c5)) ∧ (loadCellsFrom (ad.add (k * m)) 0 m #[]).run Try.prog w' = .ok LO.toArray w')
      have HPut : Hid (∀ w', Below wr.heap.size wr w' → Calls Try.prog 14 #[.agg #[.int .i64 0, .int .i64 0, .slice A5 ws.length c5], .agg LO.toArray] w' fun e w'' => ∃ A6 c6, e = .returned (.agg #[.int .i64 0, .int .i64 0, .slice A6 (ins (clean o) ws).length c6]) ∧ w''.ownsRow w'.heap.size 28 34 (.slice A6 (ins (clean o) ws).length c6) (ins (clean o) ws).length (tws (ins (clean o) ws)) ∧ Below w'.heap.size w' w'') := Lib.hid fun w' hb => by
        rw [hLO]
        refine (put_any ⟨⟨0, 0, ws⟩, A5, c5⟩ o w' (show ws.length ≤ 10000 by have := HWl.out; omega) (SlOk.own HO.out.own) HMa.out.each HI.out HMa.out.rise (Rd.own (HO.out.on hb).own)).mono ?_
        rintro e w'' ⟨⟨t, A6, c6⟩, rfl, ht, ho, hb2⟩
        rw [put_ins] at ht
        obtain rfl : t = ⟨0, 0, ins (clean o) ws⟩ := ht
        exact ⟨A6, c6, rfl, ho, hb2⟩
      generalize ins (clean o) ws = ws2 at *
      clear hLO
      have HS0 := Lib.hid (HSO.out wr.drew (Below.refl _ _).drew)
      go_wp2_with fail
      refine wp_region_heldT (fun w' => (w'.cell? ⟨b5, 0, none⟩ = some (.int .i64 0) ∧ w'.cell? ⟨b5, 1, none⟩ = some (.int .i64 0) ∧ w'.cell? ⟨b5, 2, none⟩ = some (.slice A5 ws.length c5)) ∧ (loadCellsFrom (ad.add (k * m)) 0 m #[]).run Try.prog w' = .ok LO.toArray w') 6 (by kernel_rfl) (by kernel_rfl) ?_
      refine heldT_take (i := 0) (oi := ⟨some 26, .load _ _, _, _, _, _⟩) (v := ?va0) rfl (by kernel_rfl) (by decide) (by kernel_rfl) (by kernel_rfl) (fun _ _ _ h => h) (Or.inl ⟨by rfl, ?hya0⟩) HS0.out ?resta0
      case hya0 =>
        intro w hSw
        obtain ⟨⟨hSa, hSb, hSc⟩, hS1⟩ := hSw
        go_simp
        try with_reducible rfl
      try simp only [Act.put, List.setIfInBounds_toArray, List.set_cons_zero, List.set_cons_succ]
      refine heldT_take (i := 1) (oi := ⟨some 27, .move _, _, _, _, _⟩) (v := ?va1) rfl (by kernel_rfl) (by decide) (by kernel_rfl) (by kernel_rfl) (fun _ _ _ h => h) (Or.inl ⟨by rfl, ?hya1⟩) HS0.out ?resta1
      case hya1 =>
        intro w hSw
        obtain ⟨⟨hSa, hSb, hSc⟩, hS1⟩ := hSw
        go_simp
        try with_reducible rfl
      try simp only [Act.put, List.setIfInBounds_toArray, List.set_cons_zero, List.set_cons_succ]
      refine heldT_take (i := 2) (oi := ⟨some 28, .move _, _, _, _, _⟩) (v := ?va2) rfl (by kernel_rfl) (by decide) (by kernel_rfl) (by kernel_rfl) (fun _ _ _ h => h) (Or.inl ⟨by rfl, ?hya2⟩) HS0.out ?resta2
      case hya2 =>
        intro w hSw
        obtain ⟨⟨hSa, hSb, hSc⟩, hS1⟩ := hSw
        go_simp
        try with_reducible rfl
      try simp only [Act.put, List.setIfInBounds_toArray, List.set_cons_zero, List.set_cons_succ]
      refine heldT_take (i := 3) (oi := ⟨some 29, .indexAddr _ _ _, _, _, _, _⟩) (v := ?va3) rfl (by kernel_rfl) (by decide) (by kernel_rfl) (by kernel_rfl) (fun _ _ _ h => h) (Or.inl ⟨by rfl, ?hya3⟩) HS0.out ?resta3
      case hya3 =>
        intro w hSw
        obtain ⟨⟨hSa, hSb, hSc⟩, hS1⟩ := hSw
        go_simp
        try with_reducible rfl
      try simp only [Act.put, List.setIfInBounds_toArray, List.set_cons_zero, List.set_cons_succ]
      refine heldT_take (i := 4) (oi := ⟨some 30, .load _ _, _, _, _, _⟩) (v := ?va4) rfl (by kernel_rfl) (by decide) (by kernel_rfl) (by kernel_rfl) (fun _ _ _ h => h) (Or.inl ⟨by rfl, ?hya4⟩) HS0.out ?resta4
      case hya4 =>
        intro w hSw
        obtain ⟨⟨hSa, hSb, hSc⟩, hS1⟩ := hSw
        go_simp
        try with_reducible rfl
      try simp only [Act.put, List.setIfInBounds_toArray, List.set_cons_zero, List.set_cons_succ]
      refine heldT_one (i := 5) (o := ⟨some 31, .call _, _, _, _, _⟩) rfl (by kernel_rfl) (by decide) (fun K hK => ?_)
      go_simp
      refine (HPut.out _ (Below.refl _ _).drew).mono ?_
      rintro e w6 ⟨A6, c6, rfl, ho1, hb1⟩
      have HT6 := Lib.hid (And.intro (HO.out.on (bthen (Below.refl _ _).drew hb1)) (And.intro ho1 (bthen (Below.refl _ _).drew hb1)))
      have HS6 := Lib.hid (HSO.out w6 (bthen (Below.refl _ _).drew hb1))
      clear ho1 hb1
      go_wp2_with fail
      refine hK.out _ _ (HS6.out) ?_
      clear hK K
      try simp only [Act.put, List.setIfInBounds_toArray, List.set_cons_zero, List.set_cons_succ]
      refine heldT_done (by kernel_rfl) ?_
      simp only [List.drop_succ_cons, List.drop_zero]
      by_cases hq : o.b = b
      · have HM2 := Lib.hid (HY.out.1 hq)
        have hq2 : (o.b == b) = true := by simpa using hq
        clear hq
        go_wp2_with (first
          | ((with_reducible refine wpList_store_var _ (o := ⟨none, .store _ (.tmp 5) _, _, _, _, _⟩) rfl 24 _ _ rfl b5 [.int .i64 0, .int .i64 0, .slice A6 ws2.length c6] (tnc ⟨⟨0, 0, ws⟩, A5, c5⟩) (rp_size _ _ _ _ _) rfl (rp_one _ _ _ _ _) rfl rfl HT6.out.1.bx.tail.head ?_); go_loud (intro w7 x7 g7; have HO7 := Lib.hid (HT6.out.1.t (own_base0 HT6.out.2.1 (by have := HO.out.bx.head.lt; show b6 + 1 ≤ wr.heap.size; omega)) x7 g7); have HB7 := Lib.hid HO7.out.bx.2; obtain ⟨ad2, e, _, e0⟩ := HLb.out w7 HB7.out; obtain rfl : ad = ad2 := (by injection e); obtain ⟨ad2, e, hld, _⟩ := HLd.out w7 HB7.out; obtain rfl : ad = ad2 := (by injection e); clear x7 g7 HT6 HS6 HS0))
          | ((with_reducible refine wpList_wt_store (o := ⟨none, .store _ (.tmp 6) _, _, _, _, _⟩) rfl _ _ rfl b6 o y HI.out HMa.out.yin rfl rfl HO7.out.bx.head ?_); go_loud (intro w8 x8 g8 _; have HO8 := Lib.hid (HO7.out.wt x8 g8); clear x8 g8 HO7))
          | fail)
        go_roundw
        case rel => exact ⟨k + 1, true, ws2, A6, c6, o, by go_num, by omega, rfl, HM2, HO8⟩
        case measure => first | (simp [intOf]; done) | (simp [intOf]; omega)
      · have HM2 := Lib.hid (HY.out.2 hq)
        have hq2 : (o.b == b) = false := by simpa using hq
        clear hq
        go_wp2_with (first
          | ((with_reducible refine wpList_store_var _ (o := ⟨none, .store _ (.tmp 5) _, _, _, _, _⟩) rfl 24 _ _ rfl b5 [.int .i64 0, .int .i64 0, .slice A6 ws2.length c6] (tnc ⟨⟨0, 0, ws⟩, A5, c5⟩) (rp_size _ _ _ _ _) rfl (rp_one _ _ _ _ _) rfl rfl HT6.out.1.bx.tail.head ?_); go_loud (intro w7 x7 g7; have HO7 := Lib.hid (HT6.out.1.t (own_base0 HT6.out.2.1 (by have := HO.out.bx.head.lt; show b6 + 1 ≤ wr.heap.size; omega)) x7 g7); have HB7 := Lib.hid HO7.out.bx.2; obtain ⟨ad2, e, _, e0⟩ := HLb.out w7 HB7.out; obtain rfl : ad = ad2 := (by injection e); obtain ⟨ad2, e, hld, _⟩ := HLd.out w7 HB7.out; obtain rfl : ad = ad2 := (by injection e); clear x7 g7 HT6 HS6 HS0))
          | fail)
        go_roundw
        case rel => exact ⟨k + 1, fd, ws2, A6, c6, y, by go_num, by omega, rfl, HM2, HO7⟩
        case measure => first | (simp [intOf]; done) | (simp [intOf]; omega)
    · obtain rfl : k = n := by omega
      have HMa : Hid (OvM l b ws y fd) := Lib.hid (by have h := HMa.out; rwa [List.take_of_length_le (by rw [HN.out]; exact Nat.le_refl _)] at h)
      have HGo := Lib.hid HMa.out.got
      have hgd := guard_wt
      have HWl : Hid (ws.length ≤ 60) := Lib.hid (by have h1 := HMa.out.len; have := HN.out; omega)
      obtain ⟨q, hq⟩ : ∃ q, q = clean y := ⟨_, rfl⟩
      have HQ := Lib.hid (show WIn q by rw [hq]; exact clean_in HMa.out.yin)
      have HF := Lib.hid (show fnv b ws = tnv q fd by show tnv ((fnd b ws).getD wt0) (fnd b ws).isSome = _; rw [HGo.out.1, HGo.out.2, hq])
      obtain ⟨LA, hLA⟩ : ∃ LA, LA = twc q := ⟨_, rfl⟩
      have HLA := Lib.hid hLA
      have heq : ∀ w', (binOp .eql 28 (.agg LA.toArray) (.agg LA.toArray)).run Try.prog w' = .ok (.bool true) w' := fun w' => by
        rw [hLA, eql_wt w' q q HQ.out HQ.out, (wtEq_iff q q).2 rfl]
      clear hLA
      have HW1 := Lib.hid HO.out.bx.head.wt.2
      have HRi : Hid (RiT ⟨0, 0, ws⟩) := Lib.hid ⟨HMa.out.rise, HWl.out⟩
      cases htr : y.tr
      · rw [htr] at HW1
        have hqy : q = y := by rw [hq, clean_no htr]
        subst hqy
        have c01 := HW1.out
        clear htr hq
        obtain ⟨c0, c1, c2⟩ := tn_box HO.out.bx.tail.head
        go_wp2_with fail
        refine (find_any ⟨⟨0, 0, ws⟩, A5, c5⟩ b wr (show ws.length ≤ 100000 by have := HWl.out; omega) HMa.out.each HMa.out.rise (Rd.own HO.out.own)).mono ?_
        rintro e wf ⟨rfl, hb⟩
        have HTf := Lib.hid (HO.out.on hb)
        clear hb c0 c1 c2
        dsimp only
        rw [HF.out]
        go_wp2_with (first
          | ((with_reducible refine wpList_wt_alloc (o := ⟨some 9, .alloc _, _, _, _, _⟩) rfl rfl ?_); intro wg0 xg0 Bg0 sg0)
          | ((with_reducible refine wpList_wt_store (o := ⟨none, .store _ (.tmp 9) _, _, _, _, _⟩) rfl _ _ rfl wf.heap.size q wt0 HQ.out wt0_in rfl rfl xg0 ?_); go_loud (intro wg xg gg _; have Kg := below_stored Bg0 gg Bg0.size (Nat.le_refl _); have HOg := Lib.hid (HTf.out.on Kg); have HBg := Lib.hid xg; obtain ⟨c0, c1, c2⟩ := tn_box HOg.out.bx.tail.head; have hl6 := HOg.out.bx.head.wtAll HQ.out HM.out; rw [← HLA.out] at hl6; have hl9 := HBg.out.wtAll HQ.out HM.out; rw [← HLA.out] at hl9; clear xg0 Bg0 sg0 gg xg Kg; generalize wf.heap.size = b9 at *))
          | fail)
        refine (rright_any18 ⟨⟨0, 0, ws⟩, A5, c5⟩ wg (show ws.length ≤ maxLen by have := HWl.out; simp only [maxLen]; omega) HMa.out.each (Rd.own HOg.out.own)).mono ?_
        rintro e wh ⟨rfl, hb⟩
        rw [tr_yes HRi.out]
        have HE := Lib.hid (HOg.out.on hb).bx.2
        clear hb c0 c1 c2 hl6 hl9
        go_wp2
        go_ret
        exact ⟨rfl, HE.out⟩
      · rw [htr] at HW1
        have HLy := Lib.hid (show lay (twc y) 2 (bs d32) = twc q by rw [hq]; exact lay_clean HMa.out.yin htr)
        have HYl := Lib.hid (twc_len HMa.out.yin)
        have HD := Lib.hid (show (bs d32).length = 32 by rw [bs_length]; rfl)
        have HDs := Lib.hid (show (Try.prog.info? 26).map (·.size) = some (bs d32).length by rw [HD.out]; kernel_rfl)
        have c01 := HW1.out
        clear htr hq
        go_wp2_with (first
          | ((with_reducible refine wpList_build_zero _ (o := ⟨some 45, .build _ _, _, _, _, _⟩) rfl _ rfl (bs d32) build_wd0 ?_))
          | ((with_reducible refine wpList_store_midbox _ (o := ⟨none, .store _ _ _, _, _, _, _⟩) rfl 26 _ _ rfl b6 2 28 (twc y) (bs d32) HDs.out (by rw [HD.out, HYl.out]; decide) (bs_one _) rfl rfl HO.out.bx.head ?_); go_loud (intro w4 x4 g4 _; rw [HLy.out] at x4; have HO4 := Lib.hid (HO.out.wt x4 g4); clear x4 g4 c01; obtain ⟨c0, c1, c2⟩ := tn_box HO4.out.bx.tail.head))
          | fail)
        refine (find_any ⟨⟨0, 0, ws⟩, A5, c5⟩ b w4 (show ws.length ≤ 100000 by have := HWl.out; omega) HMa.out.each HMa.out.rise (Rd.own HO4.out.own)).mono ?_
        rintro e wf ⟨rfl, hb⟩
        have HTf := Lib.hid (HO4.out.on hb)
        clear hb c0 c1 c2
        dsimp only
        rw [HF.out]
        go_wp2_with (first
          | ((with_reducible refine wpList_wt_alloc (o := ⟨some 9, .alloc _, _, _, _, _⟩) rfl rfl ?_); intro wg0 xg0 Bg0 sg0)
          | ((with_reducible refine wpList_wt_store (o := ⟨none, .store _ (.tmp 9) _, _, _, _, _⟩) rfl _ _ rfl wf.heap.size q wt0 HQ.out wt0_in rfl rfl xg0 ?_); go_loud (intro wg xg gg _; have Kg := below_stored Bg0 gg Bg0.size (Nat.le_refl _); have HOg := Lib.hid (HTf.out.on Kg); have HBg := Lib.hid xg; obtain ⟨c0, c1, c2⟩ := tn_box HOg.out.bx.tail.head; have hl6 := HOg.out.bx.head.wtAll HQ.out HM.out; rw [← HLA.out] at hl6; have hl9 := HBg.out.wtAll HQ.out HM.out; rw [← HLA.out] at hl9; clear xg0 Bg0 sg0 gg xg Kg; generalize wf.heap.size = b9 at *))
          | fail)
        refine (rright_any18 ⟨⟨0, 0, ws⟩, A5, c5⟩ wg (show ws.length ≤ maxLen by have := HWl.out; simp only [maxLen]; omega) HMa.out.each (Rd.own HOg.out.own)).mono ?_
        rintro e wh ⟨rfl, hb⟩
        rw [tr_yes HRi.out]
        have HE := Lib.hid (HOg.out.on hb).bx.2
        clear hb c0 c1 c2 hl6 hl9
        go_wp2
        go_ret
        exact ⟨rfl, HE.out⟩
end Go.Proofs.Ytakpeboicmgnpaa

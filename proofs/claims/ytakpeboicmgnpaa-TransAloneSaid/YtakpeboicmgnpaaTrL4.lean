/-
  The law TransAlone of layer 18.
-/
import Derived.Test.YtakpeboicmgnpaaTrY
namespace Go.Proofs.Ytakpeboicmgnpaa
open Go.RowKit Word Tran
set_option linter.unusedVariables false

set_option maxRecDepth 100000 in
set_option maxHeartbeats 16000000 in
theorem trlaw_alone (x : Lv) (id : Int) (y : Wt) (w : World) (hx : LRaw w x) (hy : WIn y) :
    Calls Try.prog 8 #[lval x, .int .i64 id, wval y] w fun e w' => e = .returned (.bool true) ∧ Below w.heap.size w w' := by
  obtain ⟨m, hm34, hsz⟩ := big_size (P := Try.prog) (t := 28) (s := 34) (by kernel_rfl)
  have hm0 : ¬ m = 0 := by omega
  have HM := Lib.hid hm34
  obtain ⟨nx, l, A, cap⟩ := x
  have HX := Lib.hid (And.intro hx hy)
  have HR := Lib.hid fun w' (hb : Below w.heap.size w w') => rrightall_is ⟨nx, l, A, cap⟩ w' (hx.on hb)
  have HZ := Lib.hid (TBx.nil w)
  clear hm34 hx hy
  by_cases hri : RiL nx l
  rotate_left
  · rw [tr_no hri] at HR
    clear hri
    go_enter Try.func8, Try.ntmps8
    go_wp2_with (first
      | ((with_reducible refine wpList_box_box _ (o := ⟨some 3, .box _ _, _, _, _, _⟩) rfl _ _ rfl (lgc ⟨nx, l, A, cap⟩) rfl ?_); intro w1 x1 B1 s1)
      | ((with_reducible refine wpList_wt_box (o := ⟨some 5, .box _ _, _, _, _, _⟩) rfl _ rfl y rfl ?_); intro w2 x2 B2 s2; have HT2 := Lib.hid ((HZ.out.add B1 x1).add B2 x2); clear x1 B1 s1 x2 B2 s2; generalize w1.heap.size = b5 at *)
      | fail)
    refine (awake18_any _).mono ?_
    rintro e w3 ⟨rfl, hb⟩
    have HT3 := Lib.hid (HT2.out.on hb)
    obtain ⟨c0, c1⟩ := HT3.out.cellsL (.tail _ (.head _))
    clear hb HT2
    go_wp2_with fail
    refine (HR.out _ HT3.out.2).mono ?_
    rintro e w4 ⟨rfl, hb⟩
    have HT4 := Lib.hid (HT3.out.on hb)
    clear hb c0 c1 HT3
    go_wp2_with fail
    refine (awake18_any _).mono ?_
    rintro e wz ⟨rfl, hbz⟩
    have HZz := Lib.hid (bthen HT4.out.2 hbz)
    clear hbz
    go_wp2
    go_ret
    exact ⟨rfl, HZz.out⟩
  have HI : Hid (LIn w ⟨nx, l, A, cap⟩) := Lib.hid (RiL.inn (x := ⟨nx, l, A, cap⟩) hri HX.out.1)
  have HRi : Hid (Rise (ids (l.map Tv.t))) := Lib.hid hri.2.2.2.2
  have HF := Lib.hid (show l.length ≤ 16 ∧ ∀ z ∈ l, RiE nx z.t from ⟨hri.1, hri.2.2.2.1⟩)
  rw [tr_yes hri] at HR
  clear hri
  cases hg : gett id (l.map Tv.t) with
  | none =>
    have HGn := Lib.hid hg
    clear hg
    go_enter Try.func8, Try.ntmps8
    go_wp2_with (first
      | ((with_reducible refine wpList_box_box _ (o := ⟨some 3, .box _ _, _, _, _, _⟩) rfl _ _ rfl (lgc ⟨nx, l, A, cap⟩) rfl ?_); intro w1 x1 B1 s1)
      | ((with_reducible refine wpList_wt_box (o := ⟨some 5, .box _ _, _, _, _, _⟩) rfl _ rfl y rfl ?_); intro w2 x2 B2 s2; have HT2 := Lib.hid ((HZ.out.add B1 x1).add B2 x2); clear x1 B1 s1 x2 B2 s2; generalize w1.heap.size = b5 at *)
      | fail)
    refine (awake18_any _).mono ?_
    rintro e w3 ⟨rfl, hb⟩
    have HT3 := Lib.hid (HT2.out.on hb)
    obtain ⟨c0, c1⟩ := HT3.out.cellsL (.tail _ (.head _))
    clear hb HT2
    go_wp2_with fail
    refine (HR.out _ HT3.out.2).mono ?_
    rintro e w4 ⟨rfl, hb⟩
    have HT4 := Lib.hid (HT3.out.on hb)
    clear hb c0 c1 HT3
    obtain ⟨c0, c1⟩ := HT4.out.cellsL (.tail _ (.head _))
    go_wp2_with fail
    refine (get_no (x := ⟨nx, l, A, cap⟩) (HI.out.on HT4.out.2) HRi.out HGn.out).mono ?_
    rintro e w5 ⟨A5, c5, rfl, hb⟩
    have HT5 := Lib.hid (HT4.out.on hb)
    clear hb c0 c1 HT4
    go_wp2_with (first
      | ((with_reducible refine wpList_alloc_box _ (o := ⟨some 7, .alloc _, _, _, _, _⟩) rfl _ rfl (tnc tz) zero_tn ?_); intro w60 x60 B60 s60)
      | ((with_reducible refine wpList_store_var _ (o := ⟨none, .store _ (.tmp 7) _, _, _, _, _⟩) rfl 24 _ _ rfl w5.heap.size (tnc ⟨tn0, A5, c5⟩) (tnc tz) (tn_size _) rfl (tnc_one _) rfl rfl x60 ?_); go_loud (intro w6 x6 g6; have K6 := below_stored B60 g6 B60.size (Nat.le_refl _); have HT6 := Lib.hid (HT5.out.made B60 g6 x6); obtain ⟨c0, c1⟩ := HT6.out.cellsL (.tail _ (.tail _ (.head _))); clear x60 B60 s60 g6 x6 K6; generalize w5.heap.size = b7 at *))      | ((with_reducible refine wpList_alloc_box _ (o := ⟨some 9, .alloc _, _, _, _, _⟩) rfl _ rfl (lgc lz) zero_lg ?_); intro w70 x70 B70 s70)
      | ((with_reducible refine wpList_store_var _ (o := ⟨none, .store _ (.tmp 9) _, _, _, _, _⟩) rfl 39 _ _ rfl w6.heap.size (lgc ⟨nx, l, A, cap⟩) (lgc lz) (lg_size _) rfl (lgc_one _) rfl rfl x70 ?_); go_loud (intro w7 x7 g7; have K7 := below_stored B70 g7 B70.size (Nat.le_refl _); have HT7 := Lib.hid (HT6.out.made B70 g7 x7); clear HT6 HT5 c0 c1; obtain ⟨c0, c1⟩ := HT7.out.cellsL (.tail _ (.tail _ (.tail _ (.head _)))); clear x70 B70 s70 g7 x7 K7; generalize w6.heap.size = b9 at *))      | fail)
    have HG := Lib.hid (fun (z : Tv) (hz : z ∈ l) (_ : z.t.id ≠ id) => gett_mem HRi.out (List.mem_map.2 ⟨z, hz, rfl⟩))
    have HLs := Lib.hid (show LIn w7 ⟨nx, l, A, cap⟩ ∧ Rise (tids l) from ⟨HI.out.on HT7.out.2, HRi.out⟩)
    obtain ⟨kk, hkk⟩ : ∃ kk, (if (gett id (l.map Tv.t)).isSome then (0 : Int) else 9) = kk := ⟨_, rfl⟩
    refine (drop_is (x := ⟨nx, l, A, cap⟩) (HI.out.on HT7.out.2) HRi.out hkk).mono ?_
    rintro e w8 ⟨⟨ny, l8, A8, c8⟩, rfl, hny, hmap, hown, hb⟩
    obtain rfl : nx = ny := Eq.symm hny
    have hmap : l8.map Tv.t = dropT id (l.map Tv.t) := hmap
    have HDm := Lib.hid (show (∀ z ∈ l, z.t.id ≠ id → gett z.t.id (l8.map Tv.t) = some z.t) ∧ gett id (l8.map Tv.t) = none from ⟨fun z hz hne => by rw [hmap]; exact gett_drop_other HRi.out (List.mem_map.2 ⟨z, hz, rfl⟩) hne, by rw [hmap]; exact gett_drop_same HRi.out⟩)
    have HDr := Lib.hid (tids_eq hmap (rise_drop id HRi.out))
    have HT8 := Lib.hid (show TBx w w8 [(b9, 39, lgc ⟨nx, l, A, cap⟩), (b7, 24, tnc ⟨tn0, A5, c5⟩), (b5, 28, twc y), (w.heap.size, 39, lgc ⟨nx, l, A, cap⟩)] ∧ LIn w8 ⟨nx, l, A, cap⟩ ∧ LIn w8 ⟨nx, l8, A8, c8⟩ from ⟨HT7.out.on hb, HLs.out.1.on hb, hown.inS hmap (Nat.le_trans (len_drop id HRi.out) (by have := HI.out.few; rw [List.length_map]; exact this)) (fun t ht => by obtain ⟨z, hz, rfl⟩ := List.mem_map.1 (mem_drop HRi.out ht); exact HI.out.each z hz)⟩)
    clear hmap hown hb c0 c1 hkk
    go_wp2_with (first
      | ((with_reducible refine wpList_alloc_box _ (o := ⟨some 10, .alloc _, _, _, _, _⟩) rfl _ rfl (lgc lz) zero_lg ?_); intro w90 x90 B90 s90)
      | ((with_reducible refine wpList_store_var _ (o := ⟨none, .store _ (.tmp 10) _, _, _, _, _⟩) rfl 39 _ _ rfl w8.heap.size (lgc ⟨nx, l8, A8, c8⟩) (lgc lz) (lg_size _) rfl (lgc_one _) rfl rfl x90 ?_); go_loud (intro w9 x9 g9; have K9 := below_stored B90 g9 B90.size (Nat.le_refl _); have HT9 := Lib.hid (show TBx w w9 [(w8.heap.size, 39, lgc ⟨nx, l8, A8, c8⟩), (b9, 39, lgc ⟨nx, l, A, cap⟩), (b7, 24, tnc ⟨tn0, A5, c5⟩), (b5, 28, twc y), (w.heap.size, 39, lgc ⟨nx, l, A, cap⟩)] ∧ LIn w9 ⟨nx, l, A, cap⟩ ∧ LIn w9 ⟨nx, l8, A8, c8⟩ from ⟨HT8.out.1.made B90 g9 x9, HT8.out.2.1.on K9, HT8.out.2.2.on K9⟩); clear HT8; clear x90 B90 s90 g9 x9 K9; generalize w8.heap.size = b10 at *))
      | fail)
    clear HT7
    go_loopw [12] (fun v12 wr => ∃ k : Nat, v12 = .int .i64 k ∧ k ≤ l.length ∧ Hid (TBx w wr [(b10, 39, lgc ⟨nx, l8, A8, c8⟩), (b9, 39, lgc ⟨nx, l, A, cap⟩), (b7, 24, tnc ⟨tn0, A5, c5⟩), (b5, 28, twc y), (w.heap.size, 39, lgc ⟨nx, l, A, cap⟩)] ∧ LIn wr ⟨nx, l, A, cap⟩ ∧ LIn wr ⟨nx, l8, A8, c8⟩)) (fun v12 _ => l.length - (intOf v12).toNat)
    case atStart => exact ⟨0, rfl, by omega, HT9⟩
    case round =>
      clear HT9
      obtain ⟨k, rfl, hk, HTr⟩ := hrel
      obtain ⟨c0, c1⟩ := HTr.out.1.cellsL (.tail _ (.tail _ (.tail _ (.tail _ (.head _)))))
      have hl16 : l.length ≤ 16 := HF.out.1
      by_cases hlt : k < l.length
      · have hlk : l[k]? = some (l[k]'hlt) := List.getElem?_eq_getElem hlt
        have hz : l[k]'hlt ∈ l := List.getElem_mem hlt
        have HZr := Lib.hid (And.intro (HI.out.each _ hz) (HI.out.rd.2 _ hz))
        obtain ⟨ad, hA, _, e0, e1, e2⟩ := tn_at (HI.out.rd.below HTr.out.1.2).1 hlk
        have hA2 : A = some ad := hA
        rw [hA2] at c1
        clear hA hA2
        have HGz := Lib.hid (And.intro (HG.out _ hz) (HDm.out.1 _ hz))
        have hki : (k : Int) < (l.length : Int) := by omega
        generalize l[k]'hlt = z at *
        clear hlk hz
        cases hq : z.t.id == id
        · have hne : z.t.id ≠ id := by simpa using hq
          have HGs := Lib.hid (HGz.out.1 hne)
          have HGd := Lib.hid (HGz.out.2 hne)
          clear HGz hne
          go_wp2_with (first
            | ((with_reducible refine wpList_alloc_box _ (o := ⟨some 13, .alloc _, _, _, _, _⟩) rfl _ rfl (tnc tz) zero_tn ?_); intro w100 x100 B100 s100)
            | ((with_reducible refine wpList_store_var _ (o := ⟨none, .store _ (.tmp 13) _, _, _, _, _⟩) rfl 24 _ _ rfl wr.heap.size (tnc z) (tnc tz) (tn_size _) rfl (tnc_one _) rfl rfl x100 ?_); go_loud (intro w10 x10 g10; have K10 := below_stored B100 g10 B100.size (Nat.le_refl _); have HTa := Lib.hid (And.intro (HTr.out.1.made B100 g10 x10) (And.intro (HTr.out.2.1.on K10) (HTr.out.2.2.on K10))); obtain ⟨z0, z1, z2⟩ := tn_box x10; obtain ⟨s0, s1⟩ := HTa.out.1.cellsL (.tail _ (.tail _ (.head _))); clear c0 c1 e0 e1 e2; clear x100 B100 s100 g10 x10 K10; generalize wr.heap.size = b13 at *))        | fail)
          have hC : Calls Try.prog 20 #[.agg #[.int .i64 nx, .slice A l.length cap], .int .i64 z.t.id] w10 _ := get_yes (x := ⟨nx, l, A, cap⟩) (id := z.t.id) (t := z.t) (w := w10) HTa.out.2.1 HLs.out.2 HGs.out
          with_reducible refine hC.mono ?_
          clear hC
          rintro e w11 ⟨Aa, ca, rfl, hown, _, hb⟩
          have HTb := Lib.hid (And.intro (HTa.out.1.on hb) (And.intro (HTa.out.2.1.on hb) (And.intro (HTa.out.2.2.on hb) (Rd.own hown))))
          clear hb hown z0 z1 z2 s0 s1
          go_wp2_with (first
            | ((with_reducible refine wpList_alloc_box _ (o := ⟨some 14, .alloc _, _, _, _, _⟩) rfl _ rfl (tnc tz) zero_tn ?_); intro w120 x120 B120 s120)
            | ((with_reducible refine wpList_store_var _ (o := ⟨none, .store _ (.tmp 14) _, _, _, _, _⟩) rfl 24 _ _ rfl w11.heap.size (tnc ⟨z.t, Aa, ca⟩) (tnc tz) (tn_size _) rfl (tnc_one _) rfl rfl x120 ?_); go_loud (intro w12 x12 g12; have K12 := below_stored B120 g12 B120.size (Nat.le_refl _); have HTc := Lib.hid (And.intro (HTb.out.1.made B120 g12 x12) (And.intro (HTb.out.2.1.on K12) (And.intro (HTb.out.2.2.1.on K12) ((HTb.out.2.2.2.below K12).more K12.size)))); obtain ⟨z0, z1, z2⟩ := HTc.out.1.cellsT (.tail _ (.head _)); obtain ⟨s0, s1⟩ := HTc.out.1.cellsL (.tail _ (.tail _ (.head _))); clear x120 B120 s120 g12 x12 K12; generalize w11.heap.size = b14 at *))        | fail)
          have hC : Calls Try.prog 20 #[.agg #[.int .i64 nx, .slice A8 l8.length c8], .int .i64 z.t.id] w12 _ := get_yes (x := ⟨nx, l8, A8, c8⟩) (id := z.t.id) (t := z.t) (w := w12) HTc.out.2.2.1 HDr.out HGd.out
          with_reducible refine hC.mono ?_
          clear hC
          rintro e w13 ⟨Ab, cb, rfl, hown, _, hb⟩
          have HTd := Lib.hid (And.intro (HTc.out.1.on hb) (And.intro (HTc.out.2.1.on hb) (And.intro (HTc.out.2.2.1.on hb) (And.intro ((HTc.out.2.2.2.below hb).more hb.size) (Rd.own hown)))))
          clear hb hown z0 z1 z2 s0 s1
          go_wp2_with (first
            | ((with_reducible refine wpList_alloc_box _ (o := ⟨some 16, .alloc _, _, _, _, _⟩) rfl _ rfl (tnc tz) zero_tn ?_); intro w140 x140 B140 s140)
            | ((with_reducible refine wpList_store_var _ (o := ⟨none, .store _ (.tmp 16) _, _, _, _, _⟩) rfl 24 _ _ rfl w13.heap.size (tnc ⟨z.t, Ab, cb⟩) (tnc tz) (tn_size _) rfl (tnc_one _) rfl rfl x140 ?_); go_loud (intro w14 x14 g14; have K14 := below_stored B140 g14 B140.size (Nat.le_refl _); have HTe := Lib.hid (And.intro (HTd.out.1.made B140 g14 x14) (And.intro (HTd.out.2.1.on K14) (And.intro (HTd.out.2.2.1.on K14) (And.intro ((HTd.out.2.2.2.1.below K14).more K14.size) ((HTd.out.2.2.2.2.below K14).more K14.size))))); obtain ⟨z0, z1, z2⟩ := HTe.out.1.cellsT (.tail _ (.tail _ (.head _))); obtain ⟨a0, a1, a2⟩ := HTe.out.1.cellsT (.tail _ (.head _)); clear x140 B140 s140 g14 x14 K14; generalize w13.heap.size = b16 at *))        | fail)
          refine (rsame_is ⟨z.t, Aa, ca⟩ z w14 HZr.out.1 HZr.out.1 HTe.out.2.2.2.1 ((HZr.out.2.below HTe.out.1.2).more HTe.out.1.2.size)).mono ?_
          rintro e w15 ⟨rfl, hb⟩
          rw [tr_yes (show (⟨z.t, Aa, ca⟩ : Tv).t = z.t from rfl)]
          have HTf := Lib.hid (And.intro (HTe.out.1.on hb) (And.intro (HTe.out.2.1.on hb) (And.intro (HTe.out.2.2.1.on hb) ((HTe.out.2.2.2.2.below hb).more hb.size))))
          clear hb z0 z1 z2 a0 a1 a2
          obtain ⟨z0, z1, z2⟩ := HTf.out.1.cellsT (.tail _ (.tail _ (.head _)))
          obtain ⟨a0, a1, a2⟩ := HTf.out.1.cellsT (.head _)
          go_wp2_with fail
          refine (rsame_is ⟨z.t, Ab, cb⟩ z w15 HZr.out.1 HZr.out.1 HTf.out.2.2.2 ((HZr.out.2.below HTf.out.1.2).more HTf.out.1.2.size)).mono ?_
          rintro e w16 ⟨rfl, hb⟩
          rw [tr_yes (show (⟨z.t, Ab, cb⟩ : Tv).t = z.t from rfl)]
          have HTg := Lib.hid (And.intro (HTf.out.1.on hb).tail.tail.tail (And.intro (HTf.out.2.1.on hb) (HTf.out.2.2.1.on hb)))
          clear hb z0 z1 z2 a0 a1 a2
          go_wp2
          go_roundw
          case rel => exact ⟨k + 1, by go_num, by omega, HTg⟩
          case measure => first | (simp [intOf]; done) | (simp [intOf]; omega)
        · clear HGz
          go_wp2_with (first
            | ((with_reducible refine wpList_alloc_box _ (o := ⟨some 13, .alloc _, _, _, _, _⟩) rfl _ rfl (tnc tz) zero_tn ?_); intro w100 x100 B100 s100)
            | ((with_reducible refine wpList_store_var _ (o := ⟨none, .store _ (.tmp 13) _, _, _, _, _⟩) rfl 24 _ _ rfl wr.heap.size (tnc z) (tnc tz) (tn_size _) rfl (tnc_one _) rfl rfl x100 ?_); go_loud (intro w10 x10 g10; have K10 := below_stored B100 g10 B100.size (Nat.le_refl _); have HTa := Lib.hid (And.intro (HTr.out.1.made B100 g10 x10).tail (And.intro (HTr.out.2.1.on K10) (HTr.out.2.2.on K10))); obtain ⟨z0, z1, z2⟩ := tn_box x10; clear c0 c1 e0 e1 e2; clear x100 B100 s100 g10 x10 K10; generalize wr.heap.size = b13 at *))        | fail)
          go_roundw
          case rel => exact ⟨k + 1, by go_num, by omega, HTa⟩
          case measure => first | (simp [intOf]; done) | (simp [intOf]; omega)
      · obtain rfl : k = l.length := by omega
        clear c1
        obtain ⟨d0, d1⟩ := HTr.out.1.cellsL (.head _)
        obtain ⟨_, c1⟩ := HTr.out.1.cellsL (.tail _ (.tail _ (.tail _ (.tail _ (.head _)))))
        go_wp2_with fail
        refine (get_no (x := ⟨nx, l8, A8, c8⟩) HTr.out.2.2 HDr.out HDm.out.2).mono ?_
        rintro e w11 ⟨A11, c11, rfl, hb⟩
        have HTa := Lib.hid (HTr.out.1.on hb)
        clear hb c0 c1 d0 d1
        go_wp2_with (first
          | ((with_reducible refine wpList_alloc_box _ (o := ⟨some 18, .alloc _, _, _, _, _⟩) rfl _ rfl (tnc tz) zero_tn ?_); intro w120 x120 B120 s120)
          | ((with_reducible refine wpList_store_var _ (o := ⟨none, .store _ (.tmp 18) _, _, _, _, _⟩) rfl 24 _ _ rfl w11.heap.size (tnc ⟨tn0, A11, c11⟩) (tnc tz) (tn_size _) rfl (tnc_one _) rfl rfl x120 ?_); go_loud (intro w12 x12 g12; have K12 := below_stored B120 g12 B120.size (Nat.le_refl _); have HTb := Lib.hid (HTa.out.made B120 g12 x12); obtain ⟨d0, d1⟩ := HTb.out.cellsL (.tail _ (.head _)); obtain ⟨s0, s1⟩ := HTb.out.cellsL (.tail _ (.tail _ (.head _))); obtain ⟨c0, c1⟩ := HTb.out.cellsL (.tail _ (.tail _ (.tail _ (.tail _ (.tail _ (.head _)))))); clear x120 B120 s120 g12 x12 K12; generalize w11.heap.size = b18 at *))      | fail)
        go_ret
        exact ⟨rfl, HTb.out.2⟩
  | some t =>
    have HGt := Lib.hid (gett_is HRi.out hg)
    have HGn := Lib.hid hg
    clear hg
    go_enter Try.func8, Try.ntmps8
    go_wp2_with (first
      | ((with_reducible refine wpList_box_box _ (o := ⟨some 3, .box _ _, _, _, _, _⟩) rfl _ _ rfl (lgc ⟨nx, l, A, cap⟩) rfl ?_); intro w1 x1 B1 s1)
      | ((with_reducible refine wpList_wt_box (o := ⟨some 5, .box _ _, _, _, _, _⟩) rfl _ rfl y rfl ?_); intro w2 x2 B2 s2; have HT2 := Lib.hid ((HZ.out.add B1 x1).add B2 x2); clear x1 B1 s1 x2 B2 s2; generalize w1.heap.size = b5 at *)
      | fail)
    refine (awake18_any _).mono ?_
    rintro e w3 ⟨rfl, hb⟩
    have HT3 := Lib.hid (HT2.out.on hb)
    obtain ⟨c0, c1⟩ := HT3.out.cellsL (.tail _ (.head _))
    clear hb HT2
    go_wp2_with fail
    refine (HR.out _ HT3.out.2).mono ?_
    rintro e w4 ⟨rfl, hb⟩
    have HT4 := Lib.hid (HT3.out.on hb)
    clear hb c0 c1 HT3
    obtain ⟨c0, c1⟩ := HT4.out.cellsL (.tail _ (.head _))
    go_wp2_with fail
    refine (get_yes (x := ⟨nx, l, A, cap⟩) (HI.out.on HT4.out.2) HRi.out HGn.out).mono ?_
    rintro e w5 ⟨At, ct, rfl, hown, htin, hb⟩
    have HT5 := Lib.hid (And.intro (HT4.out.on hb) hown)
    have HTi := Lib.hid htin
    clear hb c0 c1 HT4 hown htin
    go_wp2_with (first
      | ((with_reducible refine wpList_alloc_box _ (o := ⟨some 7, .alloc _, _, _, _, _⟩) rfl _ rfl (tnc tz) zero_tn ?_); intro w60 x60 B60 s60)
      | ((with_reducible refine wpList_store_var _ (o := ⟨none, .store _ (.tmp 7) _, _, _, _, _⟩) rfl 24 _ _ rfl w5.heap.size (tnc ⟨t, At, ct⟩) (tnc tz) (tn_size _) rfl (tnc_one _) rfl rfl x60 ?_); go_loud (intro w6 x6 g6; have K6 := below_stored B60 g6 B60.size (Nat.le_refl _); have HT6 := Lib.hid (And.intro (HT5.out.1.made B60 g6 x6) (own_below HT5.out.2 K6)); obtain ⟨c0, c1⟩ := HT6.out.1.cellsL (.tail _ (.tail _ (.head _))); clear x60 B60 s60 g6 x6 K6; generalize w5.heap.size = b7 at *))      | ((with_reducible refine wpList_alloc_box _ (o := ⟨some 9, .alloc _, _, _, _, _⟩) rfl _ rfl (lgc lz) zero_lg ?_); intro w650 x650 B650 s650)
      | ((with_reducible refine wpList_store_var _ (o := ⟨none, .store _ (.tmp 9) _, _, _, _, _⟩) rfl 39 _ _ rfl w6.heap.size (lgc ⟨nx, l, A, cap⟩) (lgc lz) (lg_size _) rfl (lgc_one _) rfl rfl x650 ?_); go_loud (intro w65 x65 g65; have K65 := below_stored B650 g65 B650.size (Nat.le_refl _); have H6 := Lib.hid (And.intro (HT6.out.1.made B650 g65 x65) (own_below HT6.out.2 K65)); have b9L := Lib.hid (show w.heap.size ≤ w6.heap.size from HT6.out.1.2.size); have b9D : Hid (∀ q ∈ [(b7, 24, tnc ⟨t, At, ct⟩), (b5, 28, twc y), (w.heap.size, 39, lgc ⟨nx, l, A, cap⟩)], q.1 ≠ w6.heap.size) := Lib.hid (fun q hq => Nat.ne_of_lt (HT6.out.1.1 q hq).lt); clear HT6 HT5 c0 c1; clear x650 B650 s650 g65 x65 K65; generalize w6.heap.size = b9 at *))      | fail)
    have HRt : Hid (Rise (keys t.ws) ∧ t.ws.length ≤ 60) := Lib.hid (by obtain ⟨z, hz, e⟩ := List.mem_map.1 HGt.out.2; have := (HF.out.2 z hz).1; rw [e] at this; exact this)
    obtain ⟨LY, hLY⟩ : ∃ LY, LY = twc y := ⟨_, rfl⟩
    have HSO := Lib.hid fun w' (h : TBx w w' [(b9, 39, lgc ⟨nx, l, A, cap⟩), (b7, 24, tnc ⟨t, At, ct⟩), (b5, 28, twc y), (w.heap.size, 39, lgc ⟨nx, l, A, cap⟩)]) => (⟨h.cellsL (.tail _ (.tail _ (.tail _ (.head _)))), h.cellsT (.tail _ (.head _)), by rw [hLY]; exact (h.get (.tail _ (.tail _ (.head _)))).wtAll HX.out.2 HM.out⟩ : (w'.cell? ⟨w.heap.size, 0, none⟩ = some (.int .i64 nx) ∧ w'.cell? ⟨w.heap.size, 1, none⟩ = some (.slice A l.length cap)) ∧ (w'.cell? ⟨b7, 0, none⟩ = some (.int .i64 t.id) ∧ w'.cell? ⟨b7, 1, none⟩ = some (.int .i64 t.bg) ∧ w'.cell? ⟨b7, 2, none⟩ = some (.slice At t.ws.length ct)) ∧ (loadCellsFrom ⟨b5, 0, none⟩ 0 m #[]).run Try.prog w' = .ok LY.toArray w')
    have HPut : Hid (∀ w', Below w65.heap.size w65 w' → Calls Try.prog 14 #[.agg #[.int .i64 t.id, .int .i64 t.bg, .slice At t.ws.length ct], .agg LY.toArray] w' fun e w'' => ∃ A6 c6, e = .returned (.agg #[.int .i64 t.id, .int .i64 t.bg, .slice A6 (putL (clean y) t.ws).length c6]) ∧ w''.ownsRow w'.heap.size 28 34 (.slice A6 (putL (clean y) t.ws).length c6) (putL (clean y) t.ws).length (tws (putL (clean y) t.ws)) ∧ Below w'.heap.size w' w'') := Lib.hid fun w' hb => by
      rw [hLY]
      refine (put_any ⟨t, At, ct⟩ y w' HTi.out.1 (SlOk.own H6.out.2) HTi.out.2 HX.out.2 HRt.out.1 (Rd.own (own_below H6.out.2 hb))).mono ?_
      rintro e w'' ⟨⟨t2, A6, c6⟩, rfl, ht, ho, hb2⟩
      obtain rfl : t2 = ⟨t.id, t.bg, putL (clean y) t.ws⟩ := ht
      exact ⟨A6, c6, rfl, ho, hb2⟩
    have HT2i : Hid (TIn ⟨t.id, t.bg, putL (clean y) t.ws⟩) := Lib.hid (put_tin2 HRt.out.2 HTi.out.2 HX.out.2)
    generalize hws : putL (clean y) t.ws = ws2 at *
    have HSet : Hid (∀ w' A6 c6, Below w.heap.size w w' → Rd w' w'.heap.size A6 (tws ws2) → Calls Try.prog 24 #[.agg #[.int .i64 nx, .slice A l.length cap], .agg #[.int .i64 t.id, .int .i64 t.bg, .slice A6 ws2.length c6]] w' fun e w'' => ∃ ls As cs, e = .returned (.agg #[.int .i64 nx, .slice As ls.length cs]) ∧ ls.map Tv.t = setT ⟨t.id, t.bg, ws2⟩ (l.map Tv.t) ∧ LOwn w'' w'.heap.size ⟨nx, ls, As, cs⟩ ∧ Below w'.heap.size w' w'') := Lib.hid fun w' A6 c6 hb hr => by
      refine (set_any ⟨nx, l, A, cap⟩ ⟨⟨t.id, t.bg, ws2⟩, A6, c6⟩ w' (HI.out.on hb) HRi.out HT2i.out hr).mono ?_
      rintro e w'' ⟨⟨ny, ls, As, cs⟩, rfl, hny, hmap, hown, hb2⟩
      obtain rfl : nx = ny := Eq.symm hny
      exact ⟨ls, As, cs, rfl, hmap, hown, hb2⟩
    clear hLY hws
    have HS0 := Lib.hid (HSO.out _ H6.out.1.drew)
    go_wp2_with fail
    refine wp_region_heldT (fun w' => (w'.cell? ⟨w.heap.size, 0, none⟩ = some (.int .i64 nx) ∧ w'.cell? ⟨w.heap.size, 1, none⟩ = some (.slice A l.length cap)) ∧ (w'.cell? ⟨b7, 0, none⟩ = some (.int .i64 t.id) ∧ w'.cell? ⟨b7, 1, none⟩ = some (.int .i64 t.bg) ∧ w'.cell? ⟨b7, 2, none⟩ = some (.slice At t.ws.length ct)) ∧ (loadCellsFrom ⟨b5, 0, none⟩ 0 m #[]).run Try.prog w' = .ok LY.toArray w') 5 (by kernel_rfl) (by kernel_rfl) ?_
    refine heldT_take (i := 0) (oi := ⟨some 37, .load _ _, _, _, _, _⟩) (v := ?va0) rfl (by kernel_rfl) (by decide) (by kernel_rfl) (by kernel_rfl) (fun _ _ _ h => h) (Or.inl ⟨by rfl, ?hya0⟩) HS0.out ?resta0
    case hya0 =>
      intro w hSw
      obtain ⟨⟨hSa, hSb⟩, ⟨hSc, hSd, hSe⟩, hS2⟩ := hSw
      go_simp
      try with_reducible rfl
    try simp only [Act.put, List.setIfInBounds_toArray, List.set_cons_zero, List.set_cons_succ]
    refine heldT_take (i := 1) (oi := ⟨some 38, .load _ _, _, _, _, _⟩) (v := ?va1) rfl (by kernel_rfl) (by decide) (by kernel_rfl) (by kernel_rfl) (fun _ _ _ h => h) (Or.inl ⟨by rfl, ?hya1⟩) HS0.out ?resta1
    case hya1 =>
      intro w hSw
      obtain ⟨⟨hSa, hSb⟩, ⟨hSc, hSd, hSe⟩, hS2⟩ := hSw
      go_simp
      try with_reducible rfl
    try simp only [Act.put, List.setIfInBounds_toArray, List.set_cons_zero, List.set_cons_succ]
    refine heldT_take (i := 2) (oi := ⟨some 39, .load _ _, _, _, _, _⟩) (v := ?va2) rfl (by kernel_rfl) (by decide) (by kernel_rfl) (by kernel_rfl) (fun _ _ _ h => h) (Or.inl ⟨by rfl, ?hya2⟩) HS0.out ?resta2
    case hya2 =>
      intro w hSw
      obtain ⟨⟨hSa, hSb⟩, ⟨hSc, hSd, hSe⟩, hS2⟩ := hSw
      go_simp
      try with_reducible rfl
    try simp only [Act.put, List.setIfInBounds_toArray, List.set_cons_zero, List.set_cons_succ]
    refine heldT_one (i := 3) (o := ⟨some 40, .call _, _, _, _, _⟩) rfl (by kernel_rfl) (by decide) (fun K hK => ?_)
    go_simp
    refine (HPut.out _ (Below.refl _ _).drew).mono ?_
    rintro e w61 ⟨A61, c61, rfl, ho1, hb1⟩
    have H61 := Lib.hid (And.intro (H6.out.1.on (bthen (Below.refl _ _).drew hb1)) (Rd.own ho1))
    have HS61 := Lib.hid (HSO.out _ H61.out.1)
    clear ho1 hb1
    go_wp2_with fail
    refine hK.out _ _ (HS61.out) ?_
    clear hK K
    try simp only [Act.put, List.setIfInBounds_toArray, List.set_cons_zero, List.set_cons_succ]
    refine heldT_one (i := 4) (o := ⟨some 41, .call _, _, _, _, _⟩) rfl (by kernel_rfl) (by decide) (fun K hK => ?_)
    go_simp
    refine (HSet.out _ A61 c61 H61.out.1.2 H61.out.2).mono ?_
    rintro e w62 ⟨ls, As, cs, rfl, hmap, hown, hb1⟩
    have H62 := Lib.hid (And.intro (H61.out.1.on hb1) (hown.more H61.out.1.2.size))
    have HS62 := Lib.hid (HSO.out _ H62.out.1)
    clear hown hb1
    go_wp2_with fail
    refine hK.out _ _ (HS62.out) ?_
    clear hK K
    try simp only [Act.put, List.setIfInBounds_toArray, List.set_cons_zero, List.set_cons_succ]
    refine heldT_done (by kernel_rfl) ?_
    simp only [List.drop_succ_cons, List.drop_zero]
    have HG := Lib.hid (fun (z : Tv) (hz : z ∈ l) (hne : z.t.id ≠ id) => show gett z.t.id (ls.map Tv.t) = some z.t by rw [hmap]; exact gett_set_other HRi.out (List.mem_map.2 ⟨z, hz, rfl⟩) (by show z.t.id ≠ t.id; rw [HGt.out.1]; exact hne))
    have HRs := Lib.hid (tids_eq hmap (rise_set _ HRi.out))
    have HLi := Lib.hid (fun w' (h : LOwn w' w.heap.size ⟨nx, ls, As, cs⟩) => h.inS (T := setT ⟨t.id, t.bg, ws2⟩ (l.map Tv.t)) hmap (by rw [len_set _ HRi.out, List.length_map]; exact HI.out.few) (fun q hq => by
      rcases mem_set HRi.out hq with rfl | hq
      · exact HT2i.out
      · obtain ⟨z, hz, rfl⟩ := List.mem_map.1 hq; exact HI.out.each z hz))
    clear hmap
    have b9N := Lib.hid (show w.heap.size ≤ b9 from b9L.out)
    go_wp2_with (first
      | ((with_reducible refine wpList_store_var _ (o := ⟨none, .store _ (.tmp 9) _, _, _, _, _⟩) rfl 39 _ _ rfl b9 [.int .i64 nx, .slice As ls.length cs] (lgc ⟨nx, l, A, cap⟩) (lg_size2 _ _ _ _) rfl (lg_one2 _ _ _ _) rfl rfl H62.out.1.head ?_); go_loud (intro w7 x7 g7; have HT7 := Lib.hid (show TBx w w7 [(b9, 39, lgc ⟨nx, ls, As, cs⟩), (b7, 24, tnc ⟨t, At, ct⟩), (b5, 28, twc y), (w.heap.size, 39, lgc ⟨nx, l, A, cap⟩)] from H62.out.1.set x7 g7 b9D.out b9N.out); have HLo := Lib.hid (H62.out.2.box H62.out.1.head lg_ne1 lg_ne2 g7); obtain ⟨c0, c1⟩ := HT7.out.cellsL (.tail _ (.tail _ (.tail _ (.head _)))); clear x7 g7))
      | fail)
    have HLs := Lib.hid (show LIn w7 ⟨nx, ls, As, cs⟩ ∧ Rise (tids ls) from ⟨HLi.out _ HLo.out, HRs.out⟩)
    obtain ⟨kk, hkk⟩ : ∃ kk, (if (gett id (l.map Tv.t)).isSome then (0 : Int) else 9) = kk := ⟨_, rfl⟩
    refine (drop_is (x := ⟨nx, l, A, cap⟩) (HI.out.on HT7.out.2) HRi.out hkk).mono ?_
    rintro e w8 ⟨⟨ny, l8, A8, c8⟩, rfl, hny, hmap, hown, hb⟩
    obtain rfl : nx = ny := Eq.symm hny
    have hmap : l8.map Tv.t = dropT id (l.map Tv.t) := hmap
    have HDm := Lib.hid (show (∀ z ∈ l, z.t.id ≠ id → gett z.t.id (l8.map Tv.t) = some z.t) ∧ gett id (l8.map Tv.t) = none from ⟨fun z hz hne => by rw [hmap]; exact gett_drop_other HRi.out (List.mem_map.2 ⟨z, hz, rfl⟩) hne, by rw [hmap]; exact gett_drop_same HRi.out⟩)
    have HDr := Lib.hid (tids_eq hmap (rise_drop id HRi.out))
    have HT8 := Lib.hid (show TBx w w8 [(b9, 39, lgc ⟨nx, ls, As, cs⟩), (b7, 24, tnc ⟨t, At, ct⟩), (b5, 28, twc y), (w.heap.size, 39, lgc ⟨nx, l, A, cap⟩)] ∧ LIn w8 ⟨nx, ls, As, cs⟩ ∧ LIn w8 ⟨nx, l8, A8, c8⟩ from ⟨HT7.out.on hb, HLs.out.1.on hb, hown.inS hmap (Nat.le_trans (len_drop id HRi.out) (by have := HI.out.few; rw [List.length_map]; exact this)) (fun t ht => by obtain ⟨z, hz, rfl⟩ := List.mem_map.1 (mem_drop HRi.out ht); exact HI.out.each z hz)⟩)
    clear hmap hown hb c0 c1 hkk
    go_wp2_with (first
      | ((with_reducible refine wpList_alloc_box _ (o := ⟨some 10, .alloc _, _, _, _, _⟩) rfl _ rfl (lgc lz) zero_lg ?_); intro w90 x90 B90 s90)
      | ((with_reducible refine wpList_store_var _ (o := ⟨none, .store _ (.tmp 10) _, _, _, _, _⟩) rfl 39 _ _ rfl w8.heap.size (lgc ⟨nx, l8, A8, c8⟩) (lgc lz) (lg_size _) rfl (lgc_one _) rfl rfl x90 ?_); go_loud (intro w9 x9 g9; have K9 := below_stored B90 g9 B90.size (Nat.le_refl _); have HT9 := Lib.hid (show TBx w w9 [(w8.heap.size, 39, lgc ⟨nx, l8, A8, c8⟩), (b9, 39, lgc ⟨nx, ls, As, cs⟩), (b7, 24, tnc ⟨t, At, ct⟩), (b5, 28, twc y), (w.heap.size, 39, lgc ⟨nx, l, A, cap⟩)] ∧ LIn w9 ⟨nx, ls, As, cs⟩ ∧ LIn w9 ⟨nx, l8, A8, c8⟩ from ⟨HT8.out.1.made B90 g9 x9, HT8.out.2.1.on K9, HT8.out.2.2.on K9⟩); clear HT8; clear x90 B90 s90 g9 x9 K9; generalize w8.heap.size = b10 at *))
      | fail)
    clear HT7
    go_loopw [12] (fun v12 wr => ∃ k : Nat, v12 = .int .i64 k ∧ k ≤ l.length ∧ Hid (TBx w wr [(b10, 39, lgc ⟨nx, l8, A8, c8⟩), (b9, 39, lgc ⟨nx, ls, As, cs⟩), (b7, 24, tnc ⟨t, At, ct⟩), (b5, 28, twc y), (w.heap.size, 39, lgc ⟨nx, l, A, cap⟩)] ∧ LIn wr ⟨nx, ls, As, cs⟩ ∧ LIn wr ⟨nx, l8, A8, c8⟩)) (fun v12 _ => l.length - (intOf v12).toNat)
    case atStart => exact ⟨0, rfl, by omega, HT9⟩
    case round =>
      clear HT9
      obtain ⟨k, rfl, hk, HTr⟩ := hrel
      obtain ⟨c0, c1⟩ := HTr.out.1.cellsL (.tail _ (.tail _ (.tail _ (.tail _ (.head _)))))
      have hl16 : l.length ≤ 16 := HF.out.1
      by_cases hlt : k < l.length
      · have hlk : l[k]? = some (l[k]'hlt) := List.getElem?_eq_getElem hlt
        have hz : l[k]'hlt ∈ l := List.getElem_mem hlt
        have HZr := Lib.hid (And.intro (HI.out.each _ hz) (HI.out.rd.2 _ hz))
        obtain ⟨ad, hA, _, e0, e1, e2⟩ := tn_at (HI.out.rd.below HTr.out.1.2).1 hlk
        have hA2 : A = some ad := hA
        rw [hA2] at c1
        clear hA hA2
        have HGz := Lib.hid (And.intro (HG.out _ hz) (HDm.out.1 _ hz))
        have hki : (k : Int) < (l.length : Int) := by omega
        generalize l[k]'hlt = z at *
        clear hlk hz
        cases hq : z.t.id == id
        · have hne : z.t.id ≠ id := by simpa using hq
          have HGs := Lib.hid (HGz.out.1 hne)
          have HGd := Lib.hid (HGz.out.2 hne)
          clear HGz hne
          go_wp2_with (first
            | ((with_reducible refine wpList_alloc_box _ (o := ⟨some 13, .alloc _, _, _, _, _⟩) rfl _ rfl (tnc tz) zero_tn ?_); intro w100 x100 B100 s100)
            | ((with_reducible refine wpList_store_var _ (o := ⟨none, .store _ (.tmp 13) _, _, _, _, _⟩) rfl 24 _ _ rfl wr.heap.size (tnc z) (tnc tz) (tn_size _) rfl (tnc_one _) rfl rfl x100 ?_); go_loud (intro w10 x10 g10; have K10 := below_stored B100 g10 B100.size (Nat.le_refl _); have HTa := Lib.hid (And.intro (HTr.out.1.made B100 g10 x10) (And.intro (HTr.out.2.1.on K10) (HTr.out.2.2.on K10))); obtain ⟨z0, z1, z2⟩ := tn_box x10; obtain ⟨s0, s1⟩ := HTa.out.1.cellsL (.tail _ (.tail _ (.head _))); clear c0 c1 e0 e1 e2; clear x100 B100 s100 g10 x10 K10; generalize wr.heap.size = b13 at *))        | fail)
          have hC : Calls Try.prog 20 #[.agg #[.int .i64 nx, .slice As ls.length cs], .int .i64 z.t.id] w10 _ := get_yes (x := ⟨nx, ls, As, cs⟩) (id := z.t.id) (t := z.t) (w := w10) HTa.out.2.1 HLs.out.2 HGs.out
          with_reducible refine hC.mono ?_
          clear hC
          rintro e w11 ⟨Aa, ca, rfl, hown, _, hb⟩
          have HTb := Lib.hid (And.intro (HTa.out.1.on hb) (And.intro (HTa.out.2.1.on hb) (And.intro (HTa.out.2.2.on hb) (Rd.own hown))))
          clear hb hown z0 z1 z2 s0 s1
          go_wp2_with (first
            | ((with_reducible refine wpList_alloc_box _ (o := ⟨some 14, .alloc _, _, _, _, _⟩) rfl _ rfl (tnc tz) zero_tn ?_); intro w120 x120 B120 s120)
            | ((with_reducible refine wpList_store_var _ (o := ⟨none, .store _ (.tmp 14) _, _, _, _, _⟩) rfl 24 _ _ rfl w11.heap.size (tnc ⟨z.t, Aa, ca⟩) (tnc tz) (tn_size _) rfl (tnc_one _) rfl rfl x120 ?_); go_loud (intro w12 x12 g12; have K12 := below_stored B120 g12 B120.size (Nat.le_refl _); have HTc := Lib.hid (And.intro (HTb.out.1.made B120 g12 x12) (And.intro (HTb.out.2.1.on K12) (And.intro (HTb.out.2.2.1.on K12) ((HTb.out.2.2.2.below K12).more K12.size)))); obtain ⟨z0, z1, z2⟩ := HTc.out.1.cellsT (.tail _ (.head _)); obtain ⟨s0, s1⟩ := HTc.out.1.cellsL (.tail _ (.tail _ (.head _))); clear x120 B120 s120 g12 x12 K12; generalize w11.heap.size = b14 at *))        | fail)
          have hC : Calls Try.prog 20 #[.agg #[.int .i64 nx, .slice A8 l8.length c8], .int .i64 z.t.id] w12 _ := get_yes (x := ⟨nx, l8, A8, c8⟩) (id := z.t.id) (t := z.t) (w := w12) HTc.out.2.2.1 HDr.out HGd.out
          with_reducible refine hC.mono ?_
          clear hC
          rintro e w13 ⟨Ab, cb, rfl, hown, _, hb⟩
          have HTd := Lib.hid (And.intro (HTc.out.1.on hb) (And.intro (HTc.out.2.1.on hb) (And.intro (HTc.out.2.2.1.on hb) (And.intro ((HTc.out.2.2.2.below hb).more hb.size) (Rd.own hown)))))
          clear hb hown z0 z1 z2 s0 s1
          go_wp2_with (first
            | ((with_reducible refine wpList_alloc_box _ (o := ⟨some 16, .alloc _, _, _, _, _⟩) rfl _ rfl (tnc tz) zero_tn ?_); intro w140 x140 B140 s140)
            | ((with_reducible refine wpList_store_var _ (o := ⟨none, .store _ (.tmp 16) _, _, _, _, _⟩) rfl 24 _ _ rfl w13.heap.size (tnc ⟨z.t, Ab, cb⟩) (tnc tz) (tn_size _) rfl (tnc_one _) rfl rfl x140 ?_); go_loud (intro w14 x14 g14; have K14 := below_stored B140 g14 B140.size (Nat.le_refl _); have HTe := Lib.hid (And.intro (HTd.out.1.made B140 g14 x14) (And.intro (HTd.out.2.1.on K14) (And.intro (HTd.out.2.2.1.on K14) (And.intro ((HTd.out.2.2.2.1.below K14).more K14.size) ((HTd.out.2.2.2.2.below K14).more K14.size))))); obtain ⟨z0, z1, z2⟩ := HTe.out.1.cellsT (.tail _ (.tail _ (.head _))); obtain ⟨a0, a1, a2⟩ := HTe.out.1.cellsT (.tail _ (.head _)); clear x140 B140 s140 g14 x14 K14; generalize w13.heap.size = b16 at *))        | fail)
          refine (rsame_is ⟨z.t, Aa, ca⟩ z w14 HZr.out.1 HZr.out.1 HTe.out.2.2.2.1 ((HZr.out.2.below HTe.out.1.2).more HTe.out.1.2.size)).mono ?_
          rintro e w15 ⟨rfl, hb⟩
          rw [tr_yes (show (⟨z.t, Aa, ca⟩ : Tv).t = z.t from rfl)]
          have HTf := Lib.hid (And.intro (HTe.out.1.on hb) (And.intro (HTe.out.2.1.on hb) (And.intro (HTe.out.2.2.1.on hb) ((HTe.out.2.2.2.2.below hb).more hb.size))))
          clear hb z0 z1 z2 a0 a1 a2
          obtain ⟨z0, z1, z2⟩ := HTf.out.1.cellsT (.tail _ (.tail _ (.head _)))
          obtain ⟨a0, a1, a2⟩ := HTf.out.1.cellsT (.head _)
          go_wp2_with fail
          refine (rsame_is ⟨z.t, Ab, cb⟩ z w15 HZr.out.1 HZr.out.1 HTf.out.2.2.2 ((HZr.out.2.below HTf.out.1.2).more HTf.out.1.2.size)).mono ?_
          rintro e w16 ⟨rfl, hb⟩
          rw [tr_yes (show (⟨z.t, Ab, cb⟩ : Tv).t = z.t from rfl)]
          have HTg := Lib.hid (And.intro (HTf.out.1.on hb).tail.tail.tail (And.intro (HTf.out.2.1.on hb) (HTf.out.2.2.1.on hb)))
          clear hb z0 z1 z2 a0 a1 a2
          go_wp2
          go_roundw
          case rel => exact ⟨k + 1, by go_num, by omega, HTg⟩
          case measure => first | (simp [intOf]; done) | (simp [intOf]; omega)
        · clear HGz
          go_wp2_with (first
            | ((with_reducible refine wpList_alloc_box _ (o := ⟨some 13, .alloc _, _, _, _, _⟩) rfl _ rfl (tnc tz) zero_tn ?_); intro w100 x100 B100 s100)
            | ((with_reducible refine wpList_store_var _ (o := ⟨none, .store _ (.tmp 13) _, _, _, _, _⟩) rfl 24 _ _ rfl wr.heap.size (tnc z) (tnc tz) (tn_size _) rfl (tnc_one _) rfl rfl x100 ?_); go_loud (intro w10 x10 g10; have K10 := below_stored B100 g10 B100.size (Nat.le_refl _); have HTa := Lib.hid (And.intro (HTr.out.1.made B100 g10 x10).tail (And.intro (HTr.out.2.1.on K10) (HTr.out.2.2.on K10))); obtain ⟨z0, z1, z2⟩ := tn_box x10; clear c0 c1 e0 e1 e2; clear x100 B100 s100 g10 x10 K10; generalize wr.heap.size = b13 at *))        | fail)
          go_roundw
          case rel => exact ⟨k + 1, by go_num, by omega, HTa⟩
          case measure => first | (simp [intOf]; done) | (simp [intOf]; omega)
      · obtain rfl : k = l.length := by omega
        clear c1
        obtain ⟨d0, d1⟩ := HTr.out.1.cellsL (.head _)
        obtain ⟨_, c1⟩ := HTr.out.1.cellsL (.tail _ (.tail _ (.tail _ (.tail _ (.head _)))))
        go_wp2_with fail
        refine (get_no (x := ⟨nx, l8, A8, c8⟩) HTr.out.2.2 HDr.out HDm.out.2).mono ?_
        rintro e w11 ⟨A11, c11, rfl, hb⟩
        have HTa := Lib.hid (HTr.out.1.on hb)
        clear hb c0 c1 d0 d1
        go_wp2_with (first
          | ((with_reducible refine wpList_alloc_box _ (o := ⟨some 18, .alloc _, _, _, _, _⟩) rfl _ rfl (tnc tz) zero_tn ?_); intro w120 x120 B120 s120)
          | ((with_reducible refine wpList_store_var _ (o := ⟨none, .store _ (.tmp 18) _, _, _, _, _⟩) rfl 24 _ _ rfl w11.heap.size (tnc ⟨tn0, A11, c11⟩) (tnc tz) (tn_size _) rfl (tnc_one _) rfl rfl x120 ?_); go_loud (intro w12 x12 g12; have K12 := below_stored B120 g12 B120.size (Nat.le_refl _); have HTb := Lib.hid (HTa.out.made B120 g12 x12); obtain ⟨d0, d1⟩ := HTb.out.cellsL (.tail _ (.head _)); obtain ⟨s0, s1⟩ := HTb.out.cellsL (.tail _ (.tail _ (.head _))); obtain ⟨c0, c1⟩ := HTb.out.cellsL (.tail _ (.tail _ (.tail _ (.tail _ (.tail _ (.head _)))))); clear x120 B120 s120 g12 x12 K12; generalize w11.heap.size = b18 at *))      | fail)
        go_ret
        exact ⟨rfl, HTb.out.2⟩
end Go.Proofs.Ytakpeboicmgnpaa

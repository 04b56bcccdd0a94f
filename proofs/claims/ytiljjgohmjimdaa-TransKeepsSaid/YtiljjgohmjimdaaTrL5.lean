/-
  The law TransLedgers of layer 18.
-/
import Derived.Test.YtiljjgohmjimdaaTrY
import Derived.Test.YtiljjgohmjimdaaHeldN
namespace Go.Proofs.Ytiljjgohmjimdaa
open Go.RowKit Word Tran
set_option linter.unusedVariables false

theorem with_set (t : Tv) {l : List Tv} (h : Rise (tids l)) : (l.flatMap (withS t.t.id t false)).map Tv.t = setT t.t (l.map Tv.t) := by
  rw [setT_map t.t h]
  clear h
  induction l with
  | nil => rfl
  | cons x l ih =>
    rw [List.flatMap_cons, List.map_append, ih, List.map_cons, List.map_cons]
    by_cases e : x.t.id = t.t.id <;> simp [withS, e]
theorem with_drop {id : Int} {l : List Tv} (h : Rise (tids l)) : (l.flatMap (withS id tz true)).map Tv.t = dropT id (l.map Tv.t) := by
  rw [dropT_filter id h]
  clear h
  induction l with
  | nil => rfl
  | cons x l ih =>
    rw [List.flatMap_cons, List.map_append, ih, List.map_cons, List.filter_cons]
    by_cases e : x.t.id = id <;> simp [withS, e]
theorem find_tv {id : Int} {l : List Tv} (h : Rise (tids l)) : (l.find? fun y => y.t.id == id).map Tv.t = gett id (l.map Tv.t) := by
  rw [gett_find h, List.find?_map]
  rfl
theorem tin_tn0 : TIn tn0 := ⟨by decide, fun o ho => by cases ho⟩
theorem rget_yes {x : Lv} {id : Int} {w : World} {y : Tv} (hi : LIn w x) (hf : x.l.find? (fun y => y.t.id == id) = some y) :
    Calls Try.prog 11 #[lval x, .int .i64 id] w fun e w' => e = .returned (.tuple #[tval y, .bool true]) ∧ Below w.heap.size w w' :=
  (rget_any18 x id w hi).mono fun e w' h => by
    obtain ⟨h1, h2⟩ := h
    rw [hf] at h1
    exact ⟨h1, h2⟩
theorem rget_no {x : Lv} {id : Int} {w : World} (hi : LIn w x) (hf : x.l.find? (fun y => y.t.id == id) = none) :
    Calls Try.prog 11 #[lval x, .int .i64 id] w fun e w' => e = .returned (.tuple #[tval tz, .bool false]) ∧ Below w.heap.size w w' :=
  (rget_any18 x id w hi).mono fun e w' h => by
    obtain ⟨h1, h2⟩ := h
    rw [hf] at h1
    exact ⟨h1, h2⟩
theorem rsameall_yes {x y : Lv} {w : World} (hx : LIn w x) (hy : LIn w y) (h : x.nx = y.nx ∧ x.l.map Tv.t = y.l.map Tv.t) :
    Calls Try.prog 9 #[lval x, lval y] w fun e w' => e = .returned (.bool true) ∧ Below w.heap.size w w' :=
  (rsameall_is x y w hx hy).mono fun e w' q => by
    obtain ⟨h1, h2⟩ := q
    rw [tr_yes h] at h1
    exact ⟨h1, h2⟩
theorem rsame_yes {x y : Tv} {w : World} (hx : TIn x.t) (hy : TIn y.t) (hrx : Rd w w.heap.size x.A (tws x.t.ws)) (hry : Rd w w.heap.size y.A (tws y.t.ws)) (h : x.t = y.t) :
    Calls Try.prog 13 #[tval x, tval y] w fun e w' => e = .returned (.bool true) ∧ Below w.heap.size w w' :=
  (rsame_is x y w hx hy hrx hry).mono fun e w' q => by
    obtain ⟨h1, h2⟩ := q
    rw [tr_yes h] at h1
    exact ⟨h1, h2⟩
theorem box_swell18 {w w2 : World} {base' b sz m : Nat} {T e' : TypeId} {V : Value} {cs ys : List Value} (h : Box w b T cs) (h' : w.ownsRow base' e' sz V m ys) (he : T ≠ e') (hg : w.grownBy w2 V.ownBlock) : Box w2 b T cs := by
  refine h.same (hg.block b h.lt fun e => ?_)
  exact h.ne_row h' e.symm he rfl
theorem box_rd18 {w : World} {b B : Nat} {T : TypeId} {cs : List Value} (h : Box w b T cs) (hB : b < B) : Rd w B (some ⟨b, 0, none⟩) cs := fun _ => ⟨_, rfl, hB, fun j u hu => by
  rw [Addr.add_mid, Nat.zero_add]
  exact (h.cell j).trans hu⟩
theorem r7_end {w7 W w8 : World} {gV n c9 : Nat} {A9 : Option Addr} {cs xs : List Value} (B : Below w7.heap.size w7 W) (V : Box W gV 24 (lgc lz)) (OA : W.ownsRow w7.heap.size 27 3 (.slice A9 (n + 1) c9) (n + 1) xs) (x : Box w8 gV 24 cs) (g : W.grownBy w8 (some gV)) (hV : w7.heap.size ≤ gV) :
    Below w7.heap.size w7 w8 ∧ Box w8 gV 24 cs ∧ w8.ownsRow w7.heap.size 27 3 (.slice A9 (n + 1) c9) (n + 1) xs :=
  ⟨below_stored B g B.size hV, x, trow_kept OA g fun b hb e => by
    injection e with e
    subst e
    exact V.ne_row OA hb (by decide) rfl⟩
theorem TBx.cons {w W : World} {l : List (Nat × TypeId × List Value)} {b : Nat} {T : TypeId} {cs : List Value} (h : TBx w W l) (x : Box W b T cs) : TBx w W ((b, T, cs) :: l) :=
  ⟨fun y hy => by
    rcases List.mem_cons.1 hy with rfl | hy
    · exact x
    · exact h.1 y hy, h.2⟩
theorem want_in {w W : World} {nx now : Int} {l : List Tv} {A A9 : Option Addr} {cap c9 : Nat} (h : LIn w ⟨nx, l, A, cap⟩) (hb : Below w.heap.size w W) (hl : l.length ≤ 16) (ho : Rd W W.heap.size A9 (tns l ++ tnc ⟨⟨nx, now, []⟩, none, 0⟩)) : LIn W ⟨nx + 1, l ++ [⟨⟨nx, now, []⟩, none, 0⟩], A9, c9⟩ := by
  refine ⟨by show (l ++ [_]).length ≤ 10000; simp; omega, ⟨by show Rd W W.heap.size A9 (tns (l ++ [_])); rw [tns_append, tns_single]; exact ho, fun x hx => ?_⟩, fun y hy => ?_⟩
  · rcases List.mem_append.1 hx with hx | hx
    · exact ((h.rd.2 x hx).below hb).more hb.size
    · rw [List.mem_singleton.1 hx]; exact Rd.empty
  · rcases List.mem_append.1 hy with hy | hy
    · exact h.each y hy
    · rw [List.mem_singleton.1 hy]; exact ⟨Nat.zero_le _, fun o ho => by cases ho⟩
set_option maxRecDepth 100000 in
set_option maxHeartbeats 32000000 in
theorem trlaw_ledgers (x : Lv) (now id : Int) (t : Tv) (w : World) (hx : LRaw w x) (ht : TRaw w t) :
    Calls Try.prog 3 #[lval x, .int .i64 now, .int .i64 id, tval t] w fun e w' => e = .returned (.bool true) ∧ Below w.heap.size w w' := by
  obtain ⟨nx, l, A, cap⟩ := x
  obtain ⟨t, At, ct⟩ := t
  have HX := Lib.hid (And.intro hx ht)
  have HR := Lib.hid fun w' (hb : Below w.heap.size w w') => rrightall_is ⟨nx, l, A, cap⟩ w' (hx.on hb)
  have HR2 := Lib.hid fun w' (hb : Below w.heap.size w w') => rright_any18 ⟨t, At, ct⟩ w' ht.few ht.each ((ht.rd.below hb).more hb.size)
  have HZ := Lib.hid (TBx.nil w)
  clear hx ht
  by_cases hri : RiL nx l
  rotate_left
  · rw [tr_no hri] at HR
    clear hri
    go_enter Try.func3, Try.ntmps3
    go_wp2_with (first
      | ((with_reducible refine wpList_box_box _ (o := ⟨some 4, .box _ _, _, _, _, _⟩) rfl _ _ rfl (lgc ⟨nx, l, A, cap⟩) rfl ?_); intro w1 x1 B1 s1)
      | ((with_reducible refine wpList_box_box _ (o := ⟨some 7, .box _ _, _, _, _, _⟩) rfl _ _ rfl (tnc ⟨t, At, ct⟩) rfl ?_); intro w2 x2 B2 s2; have HT2 := Lib.hid ((HZ.out.add B1 x1).add B2 x2); clear x1 B1 s1 x2 B2 s2; generalize w1.heap.size = b7 at *)
      | fail)
    refine (awake18_any _).mono ?_
    rintro e w3 ⟨rfl, hb⟩
    have HT3 := Lib.hid (HT2.out.on hb)
    obtain ⟨c0, c1⟩ := HT3.out.cellsL (.tail _ (.head _))
    clear hb HT2
    go_wp2_with fail
    refine (HR.out _ HT3.out.2).mono ?_
    rintro e w4 ⟨rfl, hb⟩
    have HT4 := Lib.hid (HT3.out.on hb)
    clear hb c0 c1 HT3
    go_wp2_with fail
    refine (awake18_any _).mono ?_
    rintro e wz ⟨rfl, hbz⟩
    have HZz := Lib.hid (bthen HT4.out.2 hbz)
    clear hbz
    go_wp2
    go_ret
    exact ⟨rfl, HZz.out⟩
  have HI : Hid (LIn w ⟨nx, l, A, cap⟩) := Lib.hid (RiL.inn (x := ⟨nx, l, A, cap⟩) hri HX.out.1)
  have HRi : Hid (Rise (ids (l.map Tv.t))) := Lib.hid hri.2.2.2.2
  have HF := Lib.hid (show l.length ≤ 16 ∧ 0 ≤ nx ∧ nx ≤ 1099511627776 from ⟨hri.1, hri.2.1, hri.2.2.1⟩)
  rw [tr_yes hri] at HR
  clear hri
  by_cases hrt : RiT t
  rotate_left
  · rw [tr_no hrt] at HR2
    clear hrt
    go_enter Try.func3, Try.ntmps3
    go_wp2_with (first
      | ((with_reducible refine wpList_box_box _ (o := ⟨some 4, .box _ _, _, _, _, _⟩) rfl _ _ rfl (lgc ⟨nx, l, A, cap⟩) rfl ?_); intro w1 x1 B1 s1)
      | ((with_reducible refine wpList_box_box _ (o := ⟨some 7, .box _ _, _, _, _, _⟩) rfl _ _ rfl (tnc ⟨t, At, ct⟩) rfl ?_); intro w2 x2 B2 s2; have HT2 := Lib.hid ((HZ.out.add B1 x1).add B2 x2); clear x1 B1 s1 x2 B2 s2; generalize w1.heap.size = b7 at *)
      | fail)
    refine (awake18_any _).mono ?_
    rintro e w3 ⟨rfl, hb⟩
    have HT3 := Lib.hid (HT2.out.on hb)
    obtain ⟨c0, c1⟩ := HT3.out.cellsL (.tail _ (.head _))
    clear hb HT2
    go_wp2_with fail
    refine (HR.out _ HT3.out.2).mono ?_
    rintro e w4 ⟨rfl, hb⟩
    have HT4 := Lib.hid (HT3.out.on hb)
    clear hb c0 c1 HT3
    obtain ⟨z0, z1, z2⟩ := HT4.out.cellsT (.head _)
    go_wp2_with fail
    refine (HR2.out _ HT4.out.2).mono ?_
    rintro e w5 ⟨rfl, hb⟩
    have HT5 := Lib.hid (HT4.out.on hb)
    clear hb z0 z1 z2 HT4
    go_wp2_with fail
    refine (awake18_any _).mono ?_
    rintro e wz ⟨rfl, hbz⟩
    have HZz := Lib.hid (bthen HT5.out.2 hbz)
    clear hbz
    go_wp2
    go_ret
    exact ⟨rfl, HZz.out⟩
  have HTi : Hid (TIn t) := Lib.hid ⟨Nat.le_trans hrt.2 (by decide), HX.out.2.each⟩
  rw [tr_yes hrt] at HR2
  clear hrt
  by_cases hl : l.length = 16
  · have hl16 : ((l.length : Int) == 16) = true := by rw [hl]; rfl
    have HL := Lib.hid hl
    clear hl
    go_enter Try.func3, Try.ntmps3
    go_wp2_with (first
      | ((with_reducible refine wpList_box_box _ (o := ⟨some 4, .box _ _, _, _, _, _⟩) rfl _ _ rfl (lgc ⟨nx, l, A, cap⟩) rfl ?_); intro w1 x1 B1 s1)
      | ((with_reducible refine wpList_box_box _ (o := ⟨some 7, .box _ _, _, _, _, _⟩) rfl _ _ rfl (tnc ⟨t, At, ct⟩) rfl ?_); intro w2 x2 B2 s2; have HT2 := Lib.hid ((HZ.out.add B1 x1).add B2 x2); clear x1 B1 s1 x2 B2 s2; generalize w1.heap.size = b7 at *)
      | fail)
    refine (awake18_any _).mono ?_
    rintro e w3 ⟨rfl, hb⟩
    have HT3 := Lib.hid (HT2.out.on hb)
    obtain ⟨c0, c1⟩ := HT3.out.cellsL (.tail _ (.head _))
    clear hb HT2
    go_wp2_with fail
    refine (HR.out _ HT3.out.2).mono ?_
    rintro e w4 ⟨rfl, hb⟩
    have HT4 := Lib.hid (HT3.out.on hb)
    clear hb c0 c1 HT3
    obtain ⟨z0, z1, z2⟩ := HT4.out.cellsT (.head _)
    go_wp2_with fail
    refine (HR2.out _ HT4.out.2).mono ?_
    rintro e w5 ⟨rfl, hb⟩
    have HT5 := Lib.hid (HT4.out.on hb)
    clear hb z0 z1 z2 HT4
    obtain ⟨c0, c1⟩ := HT5.out.cellsL (.tail _ (.head _))
    go_wp2_with fail
    refine (begin_no (x := ⟨nx, l, A, cap⟩) (now := now) (HI.out.on HT5.out.2) HF.out.2 (Nat.le_of_eq HL.out.symm)).mono ?_
    rintro e w6 ⟨⟨ny, lm, Am, cm⟩, rfl, hny, hmap, hown, hb⟩
    obtain rfl : nx = ny := Eq.symm hny
    have hmap : lm.map Tv.t = l.map Tv.t := hmap
    have HT6 := Lib.hid (And.intro (HT5.out.on hb) (hown.inS hmap (by rw [List.length_map]; exact HI.out.few) (fun t ht => by obtain ⟨z, hz, rfl⟩ := List.mem_map.1 ht; exact HI.out.each z hz)))
    have HM := Lib.hid hmap
    clear hmap hown hb c0 c1 HT5
    go_wp2_with (first
      | ((with_reducible refine wpList_alloc_box _ (o := ⟨some 9, .alloc _, _, _, _, _⟩) rfl _ rfl (lgc lz) zero_lg ?_); intro w70 x70 B70 s70)
      | ((with_reducible refine wpList_store_var _ (o := ⟨none, .store _ (.tmp 9) _, _, _, _, _⟩) rfl 24 _ _ rfl w6.heap.size (lgc ⟨nx, lm, Am, cm⟩) (lgc lz) (lg_size _) rfl (lgc_one _) rfl rfl x70 ?_); go_loud (intro w7 x7 g7; have K7 := below_stored B70 g7 B70.size (Nat.le_refl _); have HT7 := Lib.hid (And.intro (HT6.out.1.made B70 g7 x7) (HT6.out.2.on K7)); obtain ⟨m0, m1⟩ := lg_box x7; obtain ⟨c0, c1⟩ := HT7.out.1.cellsL (.tail _ (.tail _ (.head _))); clear x70 B70 s70 g7 x7 K7; generalize w6.heap.size = b9 at *))      | fail)
    clear HT6
    refine (rsameall_yes (x := ⟨nx, lm, Am, cm⟩) (y := ⟨nx, l, A, cap⟩) HT7.out.2 (HI.out.on HT7.out.1.2) ⟨rfl, HM.out⟩).mono ?_
    rintro e w8 ⟨rfl, hb⟩
    have HTq := Lib.hid (HT7.out.1.on hb).tail
    clear hb m0 m1 c0 c1 HT7
    obtain ⟨od, hod⟩ : ∃ od, oldT now (l.map Tv.t) = od := ⟨_, rfl⟩
    have Hod := Lib.hid hod
    clear hod
    cases hg : gett id (l.map Tv.t) with
    | none =>
      have HG := Lib.hid hg
      have HBf : Hid (l.find? (fun y => y.t.id == id) = none) := Lib.hid (by
        have h := find_tv (id := id) HRi.out
        rw [hg] at h
        exact Option.map_eq_none_iff.1 h)
      obtain ⟨bv, hbv⟩ : ∃ bv, bv = tz := ⟨_, rfl⟩
      have HBz := Lib.hid hbv.symm
      have HBv : Hid (bv.t = tn0 ∧ ∀ w', Below w.heap.size w w' → Rd w' w'.heap.size bv.A (tws bv.t.ws)) := Lib.hid (by subst hbv; exact ⟨rfl, fun w' _ => Rd.empty⟩)
      have HK : Hid ((if (gett id (l.map Tv.t)).isSome then (0 : Int) else 9) = 9) := Lib.hid (by rw [hg]; rfl)
      clear hg hbv
      obtain ⟨c0, c1⟩ := HTq.out.cellsL (.tail _ (.head _))
      go_wp2_with fail
      refine (get_no (x := ⟨nx, l, A, cap⟩) (HI.out.on HTq.out.2) HRi.out HG.out).mono ?_
      rintro e w10 ⟨Aa, ca, rfl, hb⟩
      have HTa := Lib.hid (And.intro (HTq.out.on hb) (And.intro tin_tn0 (show Rd w10 w10.heap.size Aa (tws tn0.ws) from Rd.empty)))
      obtain ⟨ta, hta⟩ : ∃ ta, ta = tn0 := ⟨_, rfl⟩
      rw [← hta] at HTa HBv ⊢
      clear hb c0 c1 hta
      go_wp2_with (first
        | ((with_reducible refine wpList_alloc_box _ (o := ⟨some 13, .alloc _, _, _, _, _⟩) rfl _ rfl (tnc tz) zero_tn ?_); intro w110 x110 B110 s110)
        | ((with_reducible refine wpList_store_var _ (o := ⟨none, .store _ (.tmp 13) _, _, _, _, _⟩) rfl 27 _ _ rfl w10.heap.size (tnc ⟨ta, Aa, ca⟩) (tnc tz) (tn_size _) rfl (tnc_one _) rfl rfl x110 ?_); go_loud (intro w11 x11 g11; have K11 := below_stored B110 g11 B110.size (Nat.le_refl _); have HTb := Lib.hid (And.intro (HTa.out.1.made B110 g11 x11) (And.intro HTa.out.2.1 ((HTa.out.2.2.below K11).more K11.size))); obtain ⟨c0, c1⟩ := HTb.out.1.cellsL (.tail _ (.tail _ (.head _))); clear x110 B110 s110 g11 x11 K11; generalize w10.heap.size = b13 at *))
        | fail)
      clear HTa
      refine (rget_no (x := ⟨nx, l, A, cap⟩) (HI.out.on HTb.out.1.2) HBf.out).mono ?_
      rintro e w12 ⟨rfl, hb⟩
      rw [HBz.out]
      have HTc := Lib.hid (And.intro (HTb.out.1.on hb) (And.intro HTb.out.2.1 ((HTb.out.2.2.below hb).more hb.size)))
      clear hb c0 c1 HTb
      go_wp2_with (first
        | ((with_reducible refine wpList_alloc_box _ (o := ⟨some 15, .alloc _, _, _, _, _⟩) rfl _ rfl (tnc tz) zero_tn ?_); intro w130 x130 B130 s130)
        | ((with_reducible refine wpList_store_var _ (o := ⟨none, .store _ (.tmp 15) _, _, _, _, _⟩) rfl 27 _ _ rfl w12.heap.size (tnc bv) (tnc tz) (tn_size _) rfl (tnc_one _) rfl rfl x130 ?_); go_loud (intro w13 x13 g13; have K13 := below_stored B130 g13 B130.size (Nat.le_refl _); have HTd := Lib.hid (And.intro (HTc.out.1.made B130 g13 x13) (And.intro HTc.out.2.1 ((HTc.out.2.2.below K13).more K13.size))); obtain ⟨c0, c1⟩ := HTd.out.1.cellsL (.tail _ (.tail _ (.tail _ (.head _)))); clear x130 B130 s130 g13 x13 K13; generalize w12.heap.size = b15 at *))
        | fail)
      clear HTc
      refine (drop_is (x := ⟨nx, l, A, cap⟩) (k := 9) (HI.out.on HTd.out.1.2) HRi.out HK.out).mono ?_
      rintro e w14 ⟨⟨ny, ld, Ad, cd⟩, rfl, hny, hmap, hown, hb⟩
      obtain rfl : nx = ny := Eq.symm hny
      have hmap : ld.map Tv.t = dropT id (l.map Tv.t) := hmap
      have HTe := Lib.hid (And.intro (HTd.out.1.on hb) (And.intro HTd.out.2.1 (And.intro ((HTd.out.2.2.below hb).more hb.size) (hown.inS hmap (Nat.le_trans (len_drop id HRi.out) (by have := HI.out.few; rw [List.length_map]; exact this)) (fun t ht => by obtain ⟨z, hz, rfl⟩ := List.mem_map.1 (mem_drop HRi.out ht); exact HI.out.each z hz)))))
      have HDm := Lib.hid hmap
      clear hmap hown hb c0 c1 HTd
      go_wp2_with (first
        | ((with_reducible refine wpList_alloc_box _ (o := ⟨some 17, .alloc _, _, _, _, _⟩) rfl _ rfl (lgc lz) zero_lg ?_); intro w150 x150 B150 s150)
        | ((with_reducible refine wpList_store_var _ (o := ⟨none, .store _ (.tmp 17) _, _, _, _, _⟩) rfl 24 _ _ rfl w14.heap.size (lgc ⟨nx, ld, Ad, cd⟩) (lgc lz) (lg_size _) rfl (lgc_one _) rfl rfl x150 ?_); go_loud (intro w15 x15 g15; have K15 := below_stored B150 g15 B150.size (Nat.le_refl _); have HTf := Lib.hid (And.intro (HTe.out.1.made B150 g15 x15) (And.intro HTe.out.2.1 (And.intro ((HTe.out.2.2.1.below K15).more K15.size) (HTe.out.2.2.2.on K15)))); clear x150 B150 s150 g15 x15 K15; generalize w14.heap.size = b17 at *))
        | fail)
      clear HTe
      have HSO := Lib.hid fun w' (h : TBx w w' [(b17, 24, lgc ⟨nx, ld, Ad, cd⟩), (b15, 27, tnc bv), (b13, 27, tnc ⟨ta, Aa, ca⟩), (b7, 27, tnc ⟨t, At, ct⟩), (w.heap.size, 24, lgc ⟨nx, l, A, cap⟩)]) => (⟨h.cellsL (.tail _ (.tail _ (.tail _ (.tail _ (.head _))))), h.cellsT (.tail _ (.tail _ (.tail _ (.head _)))), h.cellsT (.tail _ (.tail _ (.head _))), h.cellsT (.tail _ (.head _)), h.cellsL (.head _)⟩ : (w'.cell? ⟨w.heap.size, 0, none⟩ = some (.int .i64 nx) ∧ w'.cell? ⟨w.heap.size, 1, none⟩ = some (.slice A l.length cap)) ∧ (w'.cell? ⟨b7, 0, none⟩ = some (.int .i64 t.id) ∧ w'.cell? ⟨b7, 1, none⟩ = some (.int .i64 t.bg) ∧ w'.cell? ⟨b7, 2, none⟩ = some (.slice At t.ws.length ct)) ∧ (w'.cell? ⟨b13, 0, none⟩ = some (.int .i64 ta.id) ∧ w'.cell? ⟨b13, 1, none⟩ = some (.int .i64 ta.bg) ∧ w'.cell? ⟨b13, 2, none⟩ = some (.slice Aa ta.ws.length ca)) ∧ (w'.cell? ⟨b15, 0, none⟩ = some (.int .i64 bv.t.id) ∧ w'.cell? ⟨b15, 1, none⟩ = some (.int .i64 bv.t.bg) ∧ w'.cell? ⟨b15, 2, none⟩ = some (.slice bv.A bv.t.ws.length bv.cap)) ∧ (w'.cell? ⟨b17, 0, none⟩ = some (.int .i64 nx) ∧ w'.cell? ⟨b17, 1, none⟩ = some (.slice Ad ld.length cd)))
      have HSm : Hid (∀ w', Below w15.heap.size w15 w' → Calls Try.prog 13 #[.agg #[.int .i64 ta.id, .int .i64 ta.bg, .slice Aa ta.ws.length ca], .agg #[.int .i64 bv.t.id, .int .i64 bv.t.bg, .slice bv.A bv.t.ws.length bv.cap]] w' fun e w'' => e = .returned (.bool true) ∧ Below w'.heap.size w' w'') := Lib.hid fun w' hb => by
        exact rsame_yes (x := ⟨ta, Aa, ca⟩) (y := bv) HTf.out.2.1 (by rw [HBv.out.1]; exact HTf.out.2.1) ((HTf.out.2.2.1.below hb).more hb.size) (HBv.out.2 _ (bthen HTf.out.1.2 hb)) HBv.out.1.symm
      have HRd : Hid (∀ w', Below w15.heap.size w15 w' → Calls Try.prog 14 #[.agg #[.int .i64 nx, .slice A l.length cap], .int .i64 id] w' fun e w'' => ∃ lz Az cz, e = .returned (.agg #[.int .i64 nx, .slice Az lz.length cz]) ∧ lz.map Tv.t = dropT id (l.map Tv.t) ∧ LIn w'' ⟨nx, lz, Az, cz⟩ ∧ Below w'.heap.size w' w'') := Lib.hid fun w' hb => by
        refine (rdrop_any ⟨nx, l, A, cap⟩ id w' (HI.out.on (bthen HTf.out.1.2 hb))).mono ?_
        rintro e w'' ⟨⟨ny, lz, Az, cz⟩, rfl, hny, hl, hin, hb2⟩
        obtain rfl : nx = ny := Eq.symm hny
        exact ⟨lz, Az, cz, rfl, by rw [show lz = l.flatMap (withS id tz true) from hl]; exact with_drop HRi.out, hin, hb2⟩
      have HA1 : Hid (∀ w' lz Az cz, lz.map Tv.t = dropT id (l.map Tv.t) → LIn w' ⟨nx, lz, Az, cz⟩ → Below w15.heap.size w15 w' → Calls Try.prog 9 #[.agg #[.int .i64 nx, .slice Ad ld.length cd], .agg #[.int .i64 nx, .slice Az lz.length cz]] w' fun e w'' => e = .returned (.bool true) ∧ Below w'.heap.size w' w'') := Lib.hid fun w' lz Az cz hm hi hb => by
        exact rsameall_yes (x := ⟨nx, ld, Ad, cd⟩) (y := ⟨nx, lz, Az, cz⟩) (HTf.out.2.2.2.on hb) hi ⟨rfl, by show ld.map Tv.t = lz.map Tv.t; rw [HDm.out, hm]⟩
      have HSt : Hid (∀ w', Below w15.heap.size w15 w' → Calls Try.prog 15 #[.agg #[.int .i64 nx, .slice A l.length cap], .agg #[.int .i64 t.id, .int .i64 t.bg, .slice At t.ws.length ct]] w' fun e w'' => ∃ ls As cs, e = .returned (.agg #[.int .i64 nx, .slice As ls.length cs]) ∧ ls.map Tv.t = setT t (l.map Tv.t) ∧ LIn w'' ⟨nx, ls, As, cs⟩ ∧ Below w'.heap.size w' w'') := Lib.hid fun w' hb => by
        refine (set_any ⟨nx, l, A, cap⟩ ⟨t, At, ct⟩ w' (HI.out.on (bthen HTf.out.1.2 hb)) HRi.out HTi.out ((HX.out.2.rd.below (bthen HTf.out.1.2 hb)).more (bthen HTf.out.1.2 hb).size)).mono ?_
        rintro e w'' ⟨⟨ny, ls, As, cs⟩, rfl, hny, hl, hown, hb2⟩
        obtain rfl : nx = ny := Eq.symm hny
        exact ⟨ls, As, cs, rfl, hl, hown.inS hl (by rw [len_set _ HRi.out, List.length_map]; exact HI.out.few) (fun q hq => by
          rcases mem_set HRi.out hq with rfl | hq
          · exact HTi.out
          · obtain ⟨z, hz, rfl⟩ := List.mem_map.1 hq; exact HI.out.each z hz), hb2⟩
      have HRs : Hid (∀ w', Below w15.heap.size w15 w' → Calls Try.prog 16 #[.agg #[.int .i64 nx, .slice A l.length cap], .agg #[.int .i64 t.id, .int .i64 t.bg, .slice At t.ws.length ct]] w' fun e w'' => ∃ ls As cs, e = .returned (.agg #[.int .i64 nx, .slice As ls.length cs]) ∧ ls.map Tv.t = setT t (l.map Tv.t) ∧ LIn w'' ⟨nx, ls, As, cs⟩ ∧ Below w'.heap.size w' w'') := Lib.hid fun w' hb => by
        refine (rset_any ⟨nx, l, A, cap⟩ ⟨t, At, ct⟩ w' (HI.out.on (bthen HTf.out.1.2 hb)) HTi.out ((HX.out.2.rd.below (bthen HTf.out.1.2 hb)).more (bthen HTf.out.1.2 hb).size)).mono ?_
        rintro e w'' ⟨⟨ny, ls, As, cs⟩, rfl, hny, hl, hin, hb2⟩
        obtain rfl : nx = ny := Eq.symm hny
        exact ⟨ls, As, cs, rfl, by rw [show ls = l.flatMap (withS t.id ⟨t, At, ct⟩ false) from hl]; exact with_set ⟨t, At, ct⟩ HRi.out, hin, hb2⟩
      have HA2 : Hid (∀ w' ls As cs lz Az cz, ls.map Tv.t = setT t (l.map Tv.t) → lz.map Tv.t = setT t (l.map Tv.t) → LIn w' ⟨nx, ls, As, cs⟩ → LIn w' ⟨nx, lz, Az, cz⟩ → Calls Try.prog 9 #[.agg #[.int .i64 nx, .slice As ls.length cs], .agg #[.int .i64 nx, .slice Az lz.length cz]] w' fun e w'' => e = .returned (.bool true) ∧ Below w'.heap.size w' w'') := Lib.hid fun w' ls As cs lz Az cz hm1 hm2 hi1 hi2 => by
        exact rsameall_yes (x := ⟨nx, ls, As, cs⟩) (y := ⟨nx, lz, Az, cz⟩) hi1 hi2 ⟨rfl, by show ls.map Tv.t = lz.map Tv.t; rw [hm1, hm2]⟩
      have HO1 : Hid (∀ w', Below w15.heap.size w15 w' → Calls Try.prog 17 #[.agg #[.int .i64 nx, .slice A l.length cap], .int .i64 now] w' fun e w'' => e = .returned (.int .i64 od) ∧ Below w'.heap.size w' w'') := Lib.hid fun w' hb => by
        rw [← Hod.out]
        exact oldest_any ⟨nx, l, A, cap⟩ now w' (HI.out.on (bthen HTf.out.1.2 hb))
      have HO2 : Hid (∀ w', Below w15.heap.size w15 w' → Calls Try.prog 18 #[.agg #[.int .i64 nx, .slice A l.length cap], .int .i64 now] w' fun e w'' => e = .returned (.int .i64 od) ∧ Below w'.heap.size w' w'') := Lib.hid fun w' hb => by
        rw [← Hod.out]
        exact roldest_any18 ⟨nx, l, A, cap⟩ now w' (HI.out.on (bthen HTf.out.1.2 hb))
      have HS0 := Lib.hid (HSO.out _ HTf.out.1.drew)
      go_wp2_with fail
      refine wp_region_heldT (fun w' => (w'.cell? ⟨w.heap.size, 0, none⟩ = some (.int .i64 nx) ∧ w'.cell? ⟨w.heap.size, 1, none⟩ = some (.slice A l.length cap)) ∧ (w'.cell? ⟨b7, 0, none⟩ = some (.int .i64 t.id) ∧ w'.cell? ⟨b7, 1, none⟩ = some (.int .i64 t.bg) ∧ w'.cell? ⟨b7, 2, none⟩ = some (.slice At t.ws.length ct)) ∧ (w'.cell? ⟨b13, 0, none⟩ = some (.int .i64 ta.id) ∧ w'.cell? ⟨b13, 1, none⟩ = some (.int .i64 ta.bg) ∧ w'.cell? ⟨b13, 2, none⟩ = some (.slice Aa ta.ws.length ca)) ∧ (w'.cell? ⟨b15, 0, none⟩ = some (.int .i64 bv.t.id) ∧ w'.cell? ⟨b15, 1, none⟩ = some (.int .i64 bv.t.bg) ∧ w'.cell? ⟨b15, 2, none⟩ = some (.slice bv.A bv.t.ws.length bv.cap)) ∧ (w'.cell? ⟨b17, 0, none⟩ = some (.int .i64 nx) ∧ w'.cell? ⟨b17, 1, none⟩ = some (.slice Ad ld.length cd))) 46 (by kernel_rfl) (by kernel_rfl) ?_
      refine heldT_take (i := 0) (oi := ⟨some 101, .load _ _, _, _, _, _⟩) (v := ?vna1) rfl (by kernel_rfl) (by decide) (by kernel_rfl) (by kernel_rfl) (fun _ _ _ h => h) (Or.inl ⟨by rfl, ?hyna1⟩) HS0.out ?restna1
      case hyna1 =>
        intro w hSw
        obtain ⟨⟨ha0, ha1⟩, ⟨hb0, hb1, hb2⟩, ⟨hc0, hc1, hc2⟩, ⟨hd0, hd1, hd2⟩, ⟨he0, he1⟩⟩ := hSw
        go_simp
        try with_reducible rfl
      try simp only [Act.put, List.setIfInBounds_toArray, List.set_cons_zero, List.set_cons_succ]
      refine heldT_take (i := 1) (oi := ⟨some 102, .load _ _, _, _, _, _⟩) (v := ?vna2) rfl (by kernel_rfl) (by decide) (by kernel_rfl) (by kernel_rfl) (fun _ _ _ h => h) (Or.inl ⟨by rfl, ?hyna2⟩) HS0.out ?restna2
      case hyna2 =>
        intro w hSw
        obtain ⟨⟨ha0, ha1⟩, ⟨hb0, hb1, hb2⟩, ⟨hc0, hc1, hc2⟩, ⟨hd0, hd1, hd2⟩, ⟨he0, he1⟩⟩ := hSw
        go_simp
        try with_reducible rfl
      try simp only [Act.put, List.setIfInBounds_toArray, List.set_cons_zero, List.set_cons_succ]
      refine heldT_one (i := 2) (o := ⟨some 103, .call _, _, _, _, _⟩) rfl (by kernel_rfl) (by decide) (fun K hK => ?_)
      go_simp
      refine (HSm.out _ (Below.refl _ _).drew).mono ?_
      rintro e wa ⟨rfl, hb1⟩
      have HBa := Lib.hid (bthen (Below.refl _ _).drew hb1)
      have HSa := Lib.hid (HSO.out _ (HTf.out.1.on HBa.out))
      clear hb1
      go_wp2_with fail
      refine hK.out _ _ (HSa.out) ?_
      clear hK K
      try simp only [Act.put, List.setIfInBounds_toArray, List.set_cons_zero, List.set_cons_succ]
      refine heldT_take (i := 3) (oi := ⟨some 104, .move _, _, _, _, _⟩) (v := ?vna3) rfl (by kernel_rfl) (by decide) (by kernel_rfl) (by kernel_rfl) (fun _ _ _ h => h) (Or.inl ⟨by rfl, ?hyna3⟩) HSa.out ?restna3
      case hyna3 =>
        intro w hSw
        obtain ⟨⟨ha0, ha1⟩, ⟨hb0, hb1, hb2⟩, ⟨hc0, hc1, hc2⟩, ⟨hd0, hd1, hd2⟩, ⟨he0, he1⟩⟩ := hSw
        go_simp
        try with_reducible rfl
      try simp only [Act.put, List.setIfInBounds_toArray, List.set_cons_zero, List.set_cons_succ]
      refine heldT_take (i := 4) (oi := ⟨some 105, .move _, _, _, _, _⟩) (v := ?vna4) rfl (by kernel_rfl) (by decide) (by kernel_rfl) (by kernel_rfl) (fun _ _ _ h => h) (Or.inl ⟨by rfl, ?hyna4⟩) HSa.out ?restna4
      case hyna4 =>
        intro w hSw
        obtain ⟨⟨ha0, ha1⟩, ⟨hb0, hb1, hb2⟩, ⟨hc0, hc1, hc2⟩, ⟨hd0, hd1, hd2⟩, ⟨he0, he1⟩⟩ := hSw
        go_simp
        try with_reducible rfl
      try simp only [Act.put, List.setIfInBounds_toArray, List.set_cons_zero, List.set_cons_succ]
      refine heldT_take (i := 6) (oi := ⟨some 107, .move _, _, _, _, _⟩) (v := ?vna5) rfl (by kernel_rfl) (by decide) (by kernel_rfl) (by kernel_rfl) (fun _ _ _ h => h) (Or.inl ⟨by rfl, ?hyna5⟩) HSa.out ?restna5
      case hyna5 =>
        intro w hSw
        obtain ⟨⟨ha0, ha1⟩, ⟨hb0, hb1, hb2⟩, ⟨hc0, hc1, hc2⟩, ⟨hd0, hd1, hd2⟩, ⟨he0, he1⟩⟩ := hSw
        go_simp
        try with_reducible rfl
      try simp only [Act.put, List.setIfInBounds_toArray, List.set_cons_zero, List.set_cons_succ]
      refine heldT_take (i := 5) (oi := ⟨some 106, .binOp _ _ _ _ _, _, _, _, _⟩) (v := ?vna6) rfl (by kernel_rfl) (by decide) (by kernel_rfl) (by kernel_rfl) (fun _ _ _ h => h) (Or.inl ⟨by rfl, ?hyna6⟩) HSa.out ?restna6
      case hyna6 =>
        intro w hSw
        obtain ⟨⟨ha0, ha1⟩, ⟨hb0, hb1, hb2⟩, ⟨hc0, hc1, hc2⟩, ⟨hd0, hd1, hd2⟩, ⟨he0, he1⟩⟩ := hSw
        go_simp
        try with_reducible rfl
      try simp only [Act.put, List.setIfInBounds_toArray, List.set_cons_zero, List.set_cons_succ]
      refine heldT_take (i := 7) (oi := ⟨some 108, .binOp _ _ _ _ _, _, _, _, _⟩) (v := ?vna7) rfl (by kernel_rfl) (by decide) (by kernel_rfl) (by kernel_rfl) (fun _ _ _ h => h) (Or.inl ⟨by rfl, ?hyna7⟩) HSa.out ?restna7
      case hyna7 =>
        intro w hSw
        obtain ⟨⟨ha0, ha1⟩, ⟨hb0, hb1, hb2⟩, ⟨hc0, hc1, hc2⟩, ⟨hd0, hd1, hd2⟩, ⟨he0, he1⟩⟩ := hSw
        go_simp
        try with_reducible rfl
      try simp only [Act.put, List.setIfInBounds_toArray, List.set_cons_zero, List.set_cons_succ]
      refine heldT_take (i := 8) (oi := ⟨some 109, .pick _ _ _, _, _, _, _⟩) (v := ?vna8) rfl (by kernel_rfl) (by decide) (by kernel_rfl) (by kernel_rfl) (fun _ _ _ h => h) (Or.inl ⟨by rfl, ?hyna8⟩) HSa.out ?restna8
      case hyna8 =>
        intro w hSw
        obtain ⟨⟨ha0, ha1⟩, ⟨hb0, hb1, hb2⟩, ⟨hc0, hc1, hc2⟩, ⟨hd0, hd1, hd2⟩, ⟨he0, he1⟩⟩ := hSw
        go_simp
        try with_reducible rfl
      try simp only [Act.put, List.setIfInBounds_toArray, List.set_cons_zero, List.set_cons_succ]
      refine heldT_take (i := 9) (oi := ⟨some 110, .move _, _, _, _, _⟩) (v := ?vna9) rfl (by kernel_rfl) (by decide) (by kernel_rfl) (by kernel_rfl) (fun _ _ _ h => h) (Or.inl ⟨by rfl, ?hyna9⟩) HSa.out ?restna9
      case hyna9 =>
        intro w hSw
        obtain ⟨⟨ha0, ha1⟩, ⟨hb0, hb1, hb2⟩, ⟨hc0, hc1, hc2⟩, ⟨hd0, hd1, hd2⟩, ⟨he0, he1⟩⟩ := hSw
        go_simp
        try with_reducible rfl
      try simp only [Act.put, List.setIfInBounds_toArray, List.set_cons_zero, List.set_cons_succ]
      refine heldT_take (i := 10) (oi := ⟨some 111, .move _, _, _, _, _⟩) (v := ?vna10) rfl (by kernel_rfl) (by decide) (by kernel_rfl) (by kernel_rfl) (fun _ _ _ h => h) (Or.inl ⟨by rfl, ?hyna10⟩) HSa.out ?restna10
      case hyna10 =>
        intro w hSw
        obtain ⟨⟨ha0, ha1⟩, ⟨hb0, hb1, hb2⟩, ⟨hc0, hc1, hc2⟩, ⟨hd0, hd1, hd2⟩, ⟨he0, he1⟩⟩ := hSw
        go_simp
        try with_reducible rfl
      try simp only [Act.put, List.setIfInBounds_toArray, List.set_cons_zero, List.set_cons_succ]
      refine heldT_take (i := 11) (oi := ⟨some 112, .move _, _, _, _, _⟩) (v := ?vna11) rfl (by kernel_rfl) (by decide) (by kernel_rfl) (by kernel_rfl) (fun _ _ _ h => h) (Or.inl ⟨by rfl, ?hyna11⟩) HSa.out ?restna11
      case hyna11 =>
        intro w hSw
        obtain ⟨⟨ha0, ha1⟩, ⟨hb0, hb1, hb2⟩, ⟨hc0, hc1, hc2⟩, ⟨hd0, hd1, hd2⟩, ⟨he0, he1⟩⟩ := hSw
        go_simp
        try with_reducible rfl
      try simp only [Act.put, List.setIfInBounds_toArray, List.set_cons_zero, List.set_cons_succ]
      refine heldT_take (i := 12) (oi := ⟨some 113, .move _, _, _, _, _⟩) (v := ?vna12) rfl (by kernel_rfl) (by decide) (by kernel_rfl) (by kernel_rfl) (fun _ _ _ h => h) (Or.inl ⟨by rfl, ?hyna12⟩) HSa.out ?restna12
      case hyna12 =>
        intro w hSw
        obtain ⟨⟨ha0, ha1⟩, ⟨hb0, hb1, hb2⟩, ⟨hc0, hc1, hc2⟩, ⟨hd0, hd1, hd2⟩, ⟨he0, he1⟩⟩ := hSw
        go_simp
        try with_reducible rfl
      try simp only [Act.put, List.setIfInBounds_toArray, List.set_cons_zero, List.set_cons_succ]
      refine heldT_take (i := 13) (oi := ⟨some 114, .binOp _ _ _ _ _, _, _, _, _⟩) (v := ?vna13) rfl (by kernel_rfl) (by decide) (by kernel_rfl) (by kernel_rfl) (fun _ _ _ h => h) (Or.inl ⟨by rfl, ?hyna13⟩) HSa.out ?restna13
      case hyna13 =>
        intro w hSw
        obtain ⟨⟨ha0, ha1⟩, ⟨hb0, hb1, hb2⟩, ⟨hc0, hc1, hc2⟩, ⟨hd0, hd1, hd2⟩, ⟨he0, he1⟩⟩ := hSw
        go_simp
        try with_reducible rfl
      try simp only [Act.put, List.setIfInBounds_toArray, List.set_cons_zero, List.set_cons_succ]
      refine heldT_take (i := 14) (oi := ⟨some 115, .pick _ _ _, _, _, _, _⟩) (v := ?vna14) rfl (by kernel_rfl) (by decide) (by kernel_rfl) (by kernel_rfl) (fun _ _ _ h => h) (Or.inl ⟨by rfl, ?hyna14⟩) HSa.out ?restna14
      case hyna14 =>
        intro w hSw
        obtain ⟨⟨ha0, ha1⟩, ⟨hb0, hb1, hb2⟩, ⟨hc0, hc1, hc2⟩, ⟨hd0, hd1, hd2⟩, ⟨he0, he1⟩⟩ := hSw
        go_simp
        try with_reducible rfl
      try simp only [Act.put, List.setIfInBounds_toArray, List.set_cons_zero, List.set_cons_succ]
      refine heldT_take (i := 15) (oi := ⟨some 116, .pick _ _ _, _, _, _, _⟩) (v := ?vna15) rfl (by kernel_rfl) (by decide) (by kernel_rfl) (by kernel_rfl) (fun _ _ _ h => h) (Or.inl ⟨by rfl, ?hyna15⟩) HSa.out ?restna15
      case hyna15 =>
        intro w hSw
        obtain ⟨⟨ha0, ha1⟩, ⟨hb0, hb1, hb2⟩, ⟨hc0, hc1, hc2⟩, ⟨hd0, hd1, hd2⟩, ⟨he0, he1⟩⟩ := hSw
        go_simp
        try with_reducible rfl
      try simp only [Act.put, List.setIfInBounds_toArray, List.set_cons_zero, List.set_cons_succ]
      refine heldT_take (i := 16) (oi := ⟨some 117, .move _, _, _, _, _⟩) (v := ?vna16) rfl (by kernel_rfl) (by decide) (by kernel_rfl) (by kernel_rfl) (fun _ _ _ h => h) (Or.inl ⟨by rfl, ?hyna16⟩) HSa.out ?restna16
      case hyna16 =>
        intro w hSw
        obtain ⟨⟨ha0, ha1⟩, ⟨hb0, hb1, hb2⟩, ⟨hc0, hc1, hc2⟩, ⟨hd0, hd1, hd2⟩, ⟨he0, he1⟩⟩ := hSw
        go_simp
        try with_reducible rfl
      try simp only [Act.put, List.setIfInBounds_toArray, List.set_cons_zero, List.set_cons_succ]
      refine heldT_take (i := 17) (oi := ⟨some 118, .move _, _, _, _, _⟩) (v := ?vna17) rfl (by kernel_rfl) (by decide) (by kernel_rfl) (by kernel_rfl) (fun _ _ _ h => h) (Or.inl ⟨by rfl, ?hyna17⟩) HSa.out ?restna17
      case hyna17 =>
        intro w hSw
        obtain ⟨⟨ha0, ha1⟩, ⟨hb0, hb1, hb2⟩, ⟨hc0, hc1, hc2⟩, ⟨hd0, hd1, hd2⟩, ⟨he0, he1⟩⟩ := hSw
        go_simp
        try with_reducible rfl
      try simp only [Act.put, List.setIfInBounds_toArray, List.set_cons_zero, List.set_cons_succ]
      refine heldT_take (i := 18) (oi := ⟨some 119, .move _, _, _, _, _⟩) (v := ?vna18) rfl (by kernel_rfl) (by decide) (by kernel_rfl) (by kernel_rfl) (fun _ _ _ h => h) (Or.inl ⟨by rfl, ?hyna18⟩) HSa.out ?restna18
      case hyna18 =>
        intro w hSw
        obtain ⟨⟨ha0, ha1⟩, ⟨hb0, hb1, hb2⟩, ⟨hc0, hc1, hc2⟩, ⟨hd0, hd1, hd2⟩, ⟨he0, he1⟩⟩ := hSw
        go_simp
        try with_reducible rfl
      try simp only [Act.put, List.setIfInBounds_toArray, List.set_cons_zero, List.set_cons_succ]
      refine heldT_take (i := 19) (oi := ⟨some 120, .binOp _ _ _ _ _, _, _, _, _⟩) (v := ?vna19) rfl (by kernel_rfl) (by decide) (by kernel_rfl) (by kernel_rfl) (fun _ _ _ h => h) (Or.inl ⟨by rfl, ?hyna19⟩) HSa.out ?restna19
      case hyna19 =>
        intro w hSw
        obtain ⟨⟨ha0, ha1⟩, ⟨hb0, hb1, hb2⟩, ⟨hc0, hc1, hc2⟩, ⟨hd0, hd1, hd2⟩, ⟨he0, he1⟩⟩ := hSw
        go_simp
        try with_reducible rfl
      try simp only [Act.put, List.setIfInBounds_toArray, List.set_cons_zero, List.set_cons_succ]
      refine heldT_take (i := 20) (oi := ⟨some 121, .pick _ _ _, _, _, _, _⟩) (v := ?vna20) rfl (by kernel_rfl) (by decide) (by kernel_rfl) (by kernel_rfl) (fun _ _ _ h => h) (Or.inl ⟨by rfl, ?hyna20⟩) HSa.out ?restna20
      case hyna20 =>
        intro w hSw
        obtain ⟨⟨ha0, ha1⟩, ⟨hb0, hb1, hb2⟩, ⟨hc0, hc1, hc2⟩, ⟨hd0, hd1, hd2⟩, ⟨he0, he1⟩⟩ := hSw
        go_simp
        try with_reducible rfl
      try simp only [Act.put, List.setIfInBounds_toArray, List.set_cons_zero, List.set_cons_succ]
      refine heldT_take (i := 21) (oi := ⟨some 122, .move _, _, _, _, _⟩) (v := ?vna21) rfl (by kernel_rfl) (by decide) (by kernel_rfl) (by kernel_rfl) (fun _ _ _ h => h) (Or.inl ⟨by rfl, ?hyna21⟩) HSa.out ?restna21
      case hyna21 =>
        intro w hSw
        obtain ⟨⟨ha0, ha1⟩, ⟨hb0, hb1, hb2⟩, ⟨hc0, hc1, hc2⟩, ⟨hd0, hd1, hd2⟩, ⟨he0, he1⟩⟩ := hSw
        go_simp
        try with_reducible rfl
      try simp only [Act.put, List.setIfInBounds_toArray, List.set_cons_zero, List.set_cons_succ]
      refine heldT_take (i := 22) (oi := ⟨some 123, .load _ _, _, _, _, _⟩) (v := ?vna22) rfl (by kernel_rfl) (by decide) (by kernel_rfl) (by kernel_rfl) (fun _ _ _ h => h) (Or.inl ⟨by rfl, ?hyna22⟩) HSa.out ?restna22
      case hyna22 =>
        intro w hSw
        obtain ⟨⟨ha0, ha1⟩, ⟨hb0, hb1, hb2⟩, ⟨hc0, hc1, hc2⟩, ⟨hd0, hd1, hd2⟩, ⟨he0, he1⟩⟩ := hSw
        go_simp
        try with_reducible rfl
      try simp only [Act.put, List.setIfInBounds_toArray, List.set_cons_zero, List.set_cons_succ]
      refine heldT_take (i := 23) (oi := ⟨some 124, .load _ _, _, _, _, _⟩) (v := ?vna23) rfl (by kernel_rfl) (by decide) (by kernel_rfl) (by kernel_rfl) (fun _ _ _ h => h) (Or.inl ⟨by rfl, ?hyna23⟩) HSa.out ?restna23
      case hyna23 =>
        intro w hSw
        obtain ⟨⟨ha0, ha1⟩, ⟨hb0, hb1, hb2⟩, ⟨hc0, hc1, hc2⟩, ⟨hd0, hd1, hd2⟩, ⟨he0, he1⟩⟩ := hSw
        go_simp
        try with_reducible rfl
      try simp only [Act.put, List.setIfInBounds_toArray, List.set_cons_zero, List.set_cons_succ]
      refine heldT_take (i := 24) (oi := ⟨some 125, .move _, _, _, _, _⟩) (v := ?vna24) rfl (by kernel_rfl) (by decide) (by kernel_rfl) (by kernel_rfl) (fun _ _ _ h => h) (Or.inl ⟨by rfl, ?hyna24⟩) HSa.out ?restna24
      case hyna24 =>
        intro w hSw
        obtain ⟨⟨ha0, ha1⟩, ⟨hb0, hb1, hb2⟩, ⟨hc0, hc1, hc2⟩, ⟨hd0, hd1, hd2⟩, ⟨he0, he1⟩⟩ := hSw
        go_simp
        try with_reducible rfl
      try simp only [Act.put, List.setIfInBounds_toArray, List.set_cons_zero, List.set_cons_succ]
      refine heldT_one (i := 25) (o := ⟨some 126, .call _, _, _, _, _⟩) rfl (by kernel_rfl) (by decide) (fun K hK => ?_)
      go_simp
      refine (HRd.out _ HBa.out).mono ?_
      rintro e wb ⟨lq, Aq, cq, rfl, hm1, hi1, hb1⟩
      have HBb := Lib.hid (bthen HBa.out hb1)
      have HSb := Lib.hid (HSO.out _ (HTf.out.1.on HBb.out))
      have HQ := Lib.hid (And.intro hm1 hi1)
      clear hm1 hi1 hb1
      go_wp2_with fail
      refine hK.out _ _ (HSb.out) ?_
      clear hK K
      try simp only [Act.put, List.setIfInBounds_toArray, List.set_cons_zero, List.set_cons_succ]
      refine heldT_one (i := 26) (o := ⟨some 127, .call _, _, _, _, _⟩) rfl (by kernel_rfl) (by decide) (fun K hK => ?_)
      go_simp
      refine (HA1.out _ lq Aq cq HQ.out.1 HQ.out.2 HBb.out).mono ?_
      rintro e wc ⟨rfl, hb1⟩
      have HBc := Lib.hid (bthen HBb.out hb1)
      have HSc := Lib.hid (HSO.out _ (HTf.out.1.on HBc.out))
      clear hb1
      go_wp2_with fail
      refine hK.out _ _ (HSc.out) ?_
      clear hK K
      try simp only [Act.put, List.setIfInBounds_toArray, List.set_cons_zero, List.set_cons_succ]
      refine heldT_take (i := 27) (oi := ⟨some 128, .pick _ _ _, _, _, _, _⟩) (v := ?vna25) rfl (by kernel_rfl) (by decide) (by kernel_rfl) (by kernel_rfl) (fun _ _ _ h => h) (Or.inl ⟨by rfl, ?hyna25⟩) HSc.out ?restna25
      case hyna25 =>
        intro w hSw
        obtain ⟨⟨ha0, ha1⟩, ⟨hb0, hb1, hb2⟩, ⟨hc0, hc1, hc2⟩, ⟨hd0, hd1, hd2⟩, ⟨he0, he1⟩⟩ := hSw
        go_simp
        try with_reducible rfl
      try simp only [Act.put, List.setIfInBounds_toArray, List.set_cons_zero, List.set_cons_succ]
      refine heldT_take (i := 28) (oi := ⟨some 129, .move _, _, _, _, _⟩) (v := ?vna26) rfl (by kernel_rfl) (by decide) (by kernel_rfl) (by kernel_rfl) (fun _ _ _ h => h) (Or.inl ⟨by rfl, ?hyna26⟩) HSc.out ?restna26
      case hyna26 =>
        intro w hSw
        obtain ⟨⟨ha0, ha1⟩, ⟨hb0, hb1, hb2⟩, ⟨hc0, hc1, hc2⟩, ⟨hd0, hd1, hd2⟩, ⟨he0, he1⟩⟩ := hSw
        go_simp
        try with_reducible rfl
      try simp only [Act.put, List.setIfInBounds_toArray, List.set_cons_zero, List.set_cons_succ]
      refine heldT_take (i := 29) (oi := ⟨some 130, .load _ _, _, _, _, _⟩) (v := ?vna27) rfl (by kernel_rfl) (by decide) (by kernel_rfl) (by kernel_rfl) (fun _ _ _ h => h) (Or.inl ⟨by rfl, ?hyna27⟩) HSc.out ?restna27
      case hyna27 =>
        intro w hSw
        obtain ⟨⟨ha0, ha1⟩, ⟨hb0, hb1, hb2⟩, ⟨hc0, hc1, hc2⟩, ⟨hd0, hd1, hd2⟩, ⟨he0, he1⟩⟩ := hSw
        go_simp
        try with_reducible rfl
      try simp only [Act.put, List.setIfInBounds_toArray, List.set_cons_zero, List.set_cons_succ]
      refine heldT_take (i := 30) (oi := ⟨some 131, .load _ _, _, _, _, _⟩) (v := ?vna28) rfl (by kernel_rfl) (by decide) (by kernel_rfl) (by kernel_rfl) (fun _ _ _ h => h) (Or.inl ⟨by rfl, ?hyna28⟩) HSc.out ?restna28
      case hyna28 =>
        intro w hSw
        obtain ⟨⟨ha0, ha1⟩, ⟨hb0, hb1, hb2⟩, ⟨hc0, hc1, hc2⟩, ⟨hd0, hd1, hd2⟩, ⟨he0, he1⟩⟩ := hSw
        go_simp
        try with_reducible rfl
      try simp only [Act.put, List.setIfInBounds_toArray, List.set_cons_zero, List.set_cons_succ]
      refine heldT_take (i := 32) (oi := ⟨some 133, .load _ _, _, _, _, _⟩) (v := ?vna29) rfl (by kernel_rfl) (by decide) (by kernel_rfl) (by kernel_rfl) (fun _ _ _ h => h) (Or.inl ⟨by rfl, ?hyna29⟩) HSc.out ?restna29
      case hyna29 =>
        intro w hSw
        obtain ⟨⟨ha0, ha1⟩, ⟨hb0, hb1, hb2⟩, ⟨hc0, hc1, hc2⟩, ⟨hd0, hd1, hd2⟩, ⟨he0, he1⟩⟩ := hSw
        go_simp
        try with_reducible rfl
      try simp only [Act.put, List.setIfInBounds_toArray, List.set_cons_zero, List.set_cons_succ]
      refine heldT_take (i := 33) (oi := ⟨some 134, .load _ _, _, _, _, _⟩) (v := ?vna30) rfl (by kernel_rfl) (by decide) (by kernel_rfl) (by kernel_rfl) (fun _ _ _ h => h) (Or.inl ⟨by rfl, ?hyna30⟩) HSc.out ?restna30
      case hyna30 =>
        intro w hSw
        obtain ⟨⟨ha0, ha1⟩, ⟨hb0, hb1, hb2⟩, ⟨hc0, hc1, hc2⟩, ⟨hd0, hd1, hd2⟩, ⟨he0, he1⟩⟩ := hSw
        go_simp
        try with_reducible rfl
      try simp only [Act.put, List.setIfInBounds_toArray, List.set_cons_zero, List.set_cons_succ]
      refine heldT_one (i := 31) (o := ⟨some 132, .call _, _, _, _, _⟩) rfl (by kernel_rfl) (by decide) (fun K hK => ?_)
      go_simp
      refine (HSt.out _ HBc.out).mono ?_
      rintro e wd ⟨ls, As, cs, rfl, hm1, hi1, hb1⟩
      have HBd := Lib.hid (bthen HBc.out hb1)
      have HSd := Lib.hid (HSO.out _ (HTf.out.1.on HBd.out))
      have HP := Lib.hid (And.intro hm1 hi1)
      clear hm1 hi1 hb1
      go_wp2_with fail
      refine hK.out _ _ (HSd.out) ?_
      clear hK K
      try simp only [Act.put, List.setIfInBounds_toArray, List.set_cons_zero, List.set_cons_succ]
      refine heldT_one (i := 34) (o := ⟨some 135, .call _, _, _, _, _⟩) rfl (by kernel_rfl) (by decide) (fun K hK => ?_)
      go_simp
      refine (HRs.out _ HBd.out).mono ?_
      rintro e we ⟨lp, Ap, cp, rfl, hm1, hi1, hb1⟩
      have HBe := Lib.hid (bthen HBd.out hb1)
      have HSe := Lib.hid (HSO.out _ (HTf.out.1.on HBe.out))
      have HP2 := Lib.hid (And.intro (HP.out.2.on hb1) (And.intro hm1 hi1))
      clear hm1 hi1 hb1
      go_wp2_with fail
      refine hK.out _ _ (HSe.out) ?_
      clear hK K
      try simp only [Act.put, List.setIfInBounds_toArray, List.set_cons_zero, List.set_cons_succ]
      refine heldT_one (i := 35) (o := ⟨some 136, .call _, _, _, _, _⟩) rfl (by kernel_rfl) (by decide) (fun K hK => ?_)
      go_simp
      refine (HA2.out _ ls As cs lp Ap cp HP.out.1 HP2.out.2.1 HP2.out.1 HP2.out.2.2).mono ?_
      rintro e wf ⟨rfl, hb1⟩
      have HBf2 := Lib.hid (bthen HBe.out hb1)
      have HSf := Lib.hid (HSO.out _ (HTf.out.1.on HBf2.out))
      clear hb1
      go_wp2_with fail
      refine hK.out _ _ (HSf.out) ?_
      clear hK K
      try simp only [Act.put, List.setIfInBounds_toArray, List.set_cons_zero, List.set_cons_succ]
      refine heldT_take (i := 36) (oi := ⟨some 137, .pick _ _ _, _, _, _, _⟩) (v := ?vna31) rfl (by kernel_rfl) (by decide) (by kernel_rfl) (by kernel_rfl) (fun _ _ _ h => h) (Or.inl ⟨by rfl, ?hyna31⟩) HSf.out ?restna31
      case hyna31 =>
        intro w hSw
        obtain ⟨⟨ha0, ha1⟩, ⟨hb0, hb1, hb2⟩, ⟨hc0, hc1, hc2⟩, ⟨hd0, hd1, hd2⟩, ⟨he0, he1⟩⟩ := hSw
        go_simp
        try with_reducible rfl
      try simp only [Act.put, List.setIfInBounds_toArray, List.set_cons_zero, List.set_cons_succ]
      refine heldT_take (i := 37) (oi := ⟨some 138, .move _, _, _, _, _⟩) (v := ?vna32) rfl (by kernel_rfl) (by decide) (by kernel_rfl) (by kernel_rfl) (fun _ _ _ h => h) (Or.inl ⟨by rfl, ?hyna32⟩) HSf.out ?restna32
      case hyna32 =>
        intro w hSw
        obtain ⟨⟨ha0, ha1⟩, ⟨hb0, hb1, hb2⟩, ⟨hc0, hc1, hc2⟩, ⟨hd0, hd1, hd2⟩, ⟨he0, he1⟩⟩ := hSw
        go_simp
        try with_reducible rfl
      try simp only [Act.put, List.setIfInBounds_toArray, List.set_cons_zero, List.set_cons_succ]
      refine heldT_take (i := 38) (oi := ⟨some 139, .load _ _, _, _, _, _⟩) (v := ?vna33) rfl (by kernel_rfl) (by decide) (by kernel_rfl) (by kernel_rfl) (fun _ _ _ h => h) (Or.inl ⟨by rfl, ?hyna33⟩) HSf.out ?restna33
      case hyna33 =>
        intro w hSw
        obtain ⟨⟨ha0, ha1⟩, ⟨hb0, hb1, hb2⟩, ⟨hc0, hc1, hc2⟩, ⟨hd0, hd1, hd2⟩, ⟨he0, he1⟩⟩ := hSw
        go_simp
        try with_reducible rfl
      try simp only [Act.put, List.setIfInBounds_toArray, List.set_cons_zero, List.set_cons_succ]
      refine heldT_take (i := 39) (oi := ⟨some 140, .move _, _, _, _, _⟩) (v := ?vna34) rfl (by kernel_rfl) (by decide) (by kernel_rfl) (by kernel_rfl) (fun _ _ _ h => h) (Or.inl ⟨by rfl, ?hyna34⟩) HSf.out ?restna34
      case hyna34 =>
        intro w hSw
        obtain ⟨⟨ha0, ha1⟩, ⟨hb0, hb1, hb2⟩, ⟨hc0, hc1, hc2⟩, ⟨hd0, hd1, hd2⟩, ⟨he0, he1⟩⟩ := hSw
        go_simp
        try with_reducible rfl
      try simp only [Act.put, List.setIfInBounds_toArray, List.set_cons_zero, List.set_cons_succ]
      refine heldT_take (i := 41) (oi := ⟨some 142, .load _ _, _, _, _, _⟩) (v := ?vna35) rfl (by kernel_rfl) (by decide) (by kernel_rfl) (by kernel_rfl) (fun _ _ _ h => h) (Or.inl ⟨by rfl, ?hyna35⟩) HSf.out ?restna35
      case hyna35 =>
        intro w hSw
        obtain ⟨⟨ha0, ha1⟩, ⟨hb0, hb1, hb2⟩, ⟨hc0, hc1, hc2⟩, ⟨hd0, hd1, hd2⟩, ⟨he0, he1⟩⟩ := hSw
        go_simp
        try with_reducible rfl
      try simp only [Act.put, List.setIfInBounds_toArray, List.set_cons_zero, List.set_cons_succ]
      refine heldT_take (i := 42) (oi := ⟨some 143, .move _, _, _, _, _⟩) (v := ?vna36) rfl (by kernel_rfl) (by decide) (by kernel_rfl) (by kernel_rfl) (fun _ _ _ h => h) (Or.inl ⟨by rfl, ?hyna36⟩) HSf.out ?restna36
      case hyna36 =>
        intro w hSw
        obtain ⟨⟨ha0, ha1⟩, ⟨hb0, hb1, hb2⟩, ⟨hc0, hc1, hc2⟩, ⟨hd0, hd1, hd2⟩, ⟨he0, he1⟩⟩ := hSw
        go_simp
        try with_reducible rfl
      try simp only [Act.put, List.setIfInBounds_toArray, List.set_cons_zero, List.set_cons_succ]
      refine heldT_one (i := 40) (o := ⟨some 141, .call _, _, _, _, _⟩) rfl (by kernel_rfl) (by decide) (fun K hK => ?_)
      go_simp
      refine (HO1.out _ HBf2.out).mono ?_
      rintro e wg ⟨rfl, hb1⟩
      have HBg := Lib.hid (bthen HBf2.out hb1)
      have HSg := Lib.hid (HSO.out _ (HTf.out.1.on HBg.out))
      clear hb1
      go_wp2_with fail
      refine hK.out _ _ (HSg.out) ?_
      clear hK K
      try simp only [Act.put, List.setIfInBounds_toArray, List.set_cons_zero, List.set_cons_succ]
      refine heldT_one (i := 43) (o := ⟨some 144, .call _, _, _, _, _⟩) rfl (by kernel_rfl) (by decide) (fun K hK => ?_)
      go_simp
      refine (HO2.out _ HBg.out).mono ?_
      rintro e wh ⟨rfl, hb1⟩
      have HBh := Lib.hid (bthen HBg.out hb1)
      have HSh := Lib.hid (HSO.out _ (HTf.out.1.on HBh.out))
      clear hb1
      go_wp2_with fail
      refine hK.out _ _ (HSh.out) ?_
      clear hK K
      try simp only [Act.put, List.setIfInBounds_toArray, List.set_cons_zero, List.set_cons_succ]
      refine heldT_take (i := 44) (oi := ⟨some 145, .binOp _ _ _ _ _, _, _, _, _⟩) (v := ?vna37) rfl (by kernel_rfl) (by decide) (by kernel_rfl) (by kernel_rfl) (fun _ _ _ h => h) (Or.inl ⟨by rfl, ?hyna37⟩) HSh.out ?restna37
      case hyna37 =>
        intro w hSw
        obtain ⟨⟨ha0, ha1⟩, ⟨hb0, hb1, hb2⟩, ⟨hc0, hc1, hc2⟩, ⟨hd0, hd1, hd2⟩, ⟨he0, he1⟩⟩ := hSw
        go_simp
        try with_reducible rfl
      try simp only [Act.put, List.setIfInBounds_toArray, List.set_cons_zero, List.set_cons_succ]
      refine heldT_take (i := 45) (oi := ⟨some 146, .pick _ _ _, _, _, _, _⟩) (v := ?vna38) rfl (by kernel_rfl) (by decide) (by kernel_rfl) (by kernel_rfl) (fun _ _ _ h => h) (Or.inl ⟨by rfl, ?hyna38⟩) HSh.out ?restna38
      case hyna38 =>
        intro w hSw
        obtain ⟨⟨ha0, ha1⟩, ⟨hb0, hb1, hb2⟩, ⟨hc0, hc1, hc2⟩, ⟨hd0, hd1, hd2⟩, ⟨he0, he1⟩⟩ := hSw
        go_simp
        try with_reducible rfl
      try simp only [Act.put, List.setIfInBounds_toArray, List.set_cons_zero, List.set_cons_succ]
      refine heldT_done (by kernel_rfl) ?_
      go_wp2
      go_ret
      exact ⟨rfl, bthen HTf.out.1.2 HBh.out⟩
    | some ta =>
      have HG := Lib.hid hg
      obtain ⟨bv, hbf, hbt⟩ : ∃ bv, l.find? (fun y => y.t.id == id) = some bv ∧ bv.t = ta := by
        have h := find_tv (id := id) HRi.out
        rw [hg] at h
        exact Option.map_eq_some_iff.1 h
      have HBf := Lib.hid hbf
      have HBv : Hid (bv.t = ta ∧ ∀ w', Below w.heap.size w w' → Rd w' w'.heap.size bv.A (tws bv.t.ws)) := Lib.hid ⟨hbt, fun w' hb => ((HI.out.rd.2 _ (List.mem_of_find?_eq_some hbf)).below hb).more hb.size⟩
      have HK : Hid ((if (gett id (l.map Tv.t)).isSome then (0 : Int) else 9) = 0) := Lib.hid (by rw [hg]; rfl)
      clear hg hbf hbt
      obtain ⟨c0, c1⟩ := HTq.out.cellsL (.tail _ (.head _))
      go_wp2_with fail
      refine (get_yes (x := ⟨nx, l, A, cap⟩) (HI.out.on HTq.out.2) HRi.out HG.out).mono ?_
      rintro e w10 ⟨Aa, ca, rfl, hown, hti, hb⟩
      have HTa := Lib.hid (And.intro (HTq.out.on hb) (And.intro hti (Rd.own hown)))
      clear hown hti hb c0 c1
      go_wp2_with (first
        | ((with_reducible refine wpList_alloc_box _ (o := ⟨some 13, .alloc _, _, _, _, _⟩) rfl _ rfl (tnc tz) zero_tn ?_); intro w110 x110 B110 s110)
        | ((with_reducible refine wpList_store_var _ (o := ⟨none, .store _ (.tmp 13) _, _, _, _, _⟩) rfl 27 _ _ rfl w10.heap.size (tnc ⟨ta, Aa, ca⟩) (tnc tz) (tn_size _) rfl (tnc_one _) rfl rfl x110 ?_); go_loud (intro w11 x11 g11; have K11 := below_stored B110 g11 B110.size (Nat.le_refl _); have HTb := Lib.hid (And.intro (HTa.out.1.made B110 g11 x11) (And.intro HTa.out.2.1 ((HTa.out.2.2.below K11).more K11.size))); obtain ⟨c0, c1⟩ := HTb.out.1.cellsL (.tail _ (.tail _ (.head _))); clear x110 B110 s110 g11 x11 K11; generalize w10.heap.size = b13 at *))
        | fail)
      clear HTa
      refine (rget_yes (x := ⟨nx, l, A, cap⟩) (HI.out.on HTb.out.1.2) HBf.out).mono ?_
      rintro e w12 ⟨rfl, hb⟩
      have HTc := Lib.hid (And.intro (HTb.out.1.on hb) (And.intro HTb.out.2.1 ((HTb.out.2.2.below hb).more hb.size)))
      clear hb c0 c1 HTb
      go_wp2_with (first
        | ((with_reducible refine wpList_alloc_box _ (o := ⟨some 15, .alloc _, _, _, _, _⟩) rfl _ rfl (tnc tz) zero_tn ?_); intro w130 x130 B130 s130)
        | ((with_reducible refine wpList_store_var _ (o := ⟨none, .store _ (.tmp 15) _, _, _, _, _⟩) rfl 27 _ _ rfl w12.heap.size (tnc bv) (tnc tz) (tn_size _) rfl (tnc_one _) rfl rfl x130 ?_); go_loud (intro w13 x13 g13; have K13 := below_stored B130 g13 B130.size (Nat.le_refl _); have HTd := Lib.hid (And.intro (HTc.out.1.made B130 g13 x13) (And.intro HTc.out.2.1 ((HTc.out.2.2.below K13).more K13.size))); obtain ⟨c0, c1⟩ := HTd.out.1.cellsL (.tail _ (.tail _ (.tail _ (.head _)))); clear x130 B130 s130 g13 x13 K13; generalize w12.heap.size = b15 at *))
        | fail)
      clear HTc
      refine (drop_is (x := ⟨nx, l, A, cap⟩) (k := 0) (HI.out.on HTd.out.1.2) HRi.out HK.out).mono ?_
      rintro e w14 ⟨⟨ny, ld, Ad, cd⟩, rfl, hny, hmap, hown, hb⟩
      obtain rfl : nx = ny := Eq.symm hny
      have hmap : ld.map Tv.t = dropT id (l.map Tv.t) := hmap
      have HTe := Lib.hid (And.intro (HTd.out.1.on hb) (And.intro HTd.out.2.1 (And.intro ((HTd.out.2.2.below hb).more hb.size) (hown.inS hmap (Nat.le_trans (len_drop id HRi.out) (by have := HI.out.few; rw [List.length_map]; exact this)) (fun t ht => by obtain ⟨z, hz, rfl⟩ := List.mem_map.1 (mem_drop HRi.out ht); exact HI.out.each z hz)))))
      have HDm := Lib.hid hmap
      clear hmap hown hb c0 c1 HTd
      go_wp2_with (first
        | ((with_reducible refine wpList_alloc_box _ (o := ⟨some 17, .alloc _, _, _, _, _⟩) rfl _ rfl (lgc lz) zero_lg ?_); intro w150 x150 B150 s150)
        | ((with_reducible refine wpList_store_var _ (o := ⟨none, .store _ (.tmp 17) _, _, _, _, _⟩) rfl 24 _ _ rfl w14.heap.size (lgc ⟨nx, ld, Ad, cd⟩) (lgc lz) (lg_size _) rfl (lgc_one _) rfl rfl x150 ?_); go_loud (intro w15 x15 g15; have K15 := below_stored B150 g15 B150.size (Nat.le_refl _); have HTf := Lib.hid (And.intro (HTe.out.1.made B150 g15 x15) (And.intro HTe.out.2.1 (And.intro ((HTe.out.2.2.1.below K15).more K15.size) (HTe.out.2.2.2.on K15)))); clear x150 B150 s150 g15 x15 K15; generalize w14.heap.size = b17 at *))
        | fail)
      clear HTe
      have HSO := Lib.hid fun w' (h : TBx w w' [(b17, 24, lgc ⟨nx, ld, Ad, cd⟩), (b15, 27, tnc bv), (b13, 27, tnc ⟨ta, Aa, ca⟩), (b7, 27, tnc ⟨t, At, ct⟩), (w.heap.size, 24, lgc ⟨nx, l, A, cap⟩)]) => (⟨h.cellsL (.tail _ (.tail _ (.tail _ (.tail _ (.head _))))), h.cellsT (.tail _ (.tail _ (.tail _ (.head _)))), h.cellsT (.tail _ (.tail _ (.head _))), h.cellsT (.tail _ (.head _)), h.cellsL (.head _)⟩ : (w'.cell? ⟨w.heap.size, 0, none⟩ = some (.int .i64 nx) ∧ w'.cell? ⟨w.heap.size, 1, none⟩ = some (.slice A l.length cap)) ∧ (w'.cell? ⟨b7, 0, none⟩ = some (.int .i64 t.id) ∧ w'.cell? ⟨b7, 1, none⟩ = some (.int .i64 t.bg) ∧ w'.cell? ⟨b7, 2, none⟩ = some (.slice At t.ws.length ct)) ∧ (w'.cell? ⟨b13, 0, none⟩ = some (.int .i64 ta.id) ∧ w'.cell? ⟨b13, 1, none⟩ = some (.int .i64 ta.bg) ∧ w'.cell? ⟨b13, 2, none⟩ = some (.slice Aa ta.ws.length ca)) ∧ (w'.cell? ⟨b15, 0, none⟩ = some (.int .i64 bv.t.id) ∧ w'.cell? ⟨b15, 1, none⟩ = some (.int .i64 bv.t.bg) ∧ w'.cell? ⟨b15, 2, none⟩ = some (.slice bv.A bv.t.ws.length bv.cap)) ∧ (w'.cell? ⟨b17, 0, none⟩ = some (.int .i64 nx) ∧ w'.cell? ⟨b17, 1, none⟩ = some (.slice Ad ld.length cd)))
      have HSm : Hid (∀ w', Below w15.heap.size w15 w' → Calls Try.prog 13 #[.agg #[.int .i64 ta.id, .int .i64 ta.bg, .slice Aa ta.ws.length ca], .agg #[.int .i64 bv.t.id, .int .i64 bv.t.bg, .slice bv.A bv.t.ws.length bv.cap]] w' fun e w'' => e = .returned (.bool true) ∧ Below w'.heap.size w' w'') := Lib.hid fun w' hb => by
        exact rsame_yes (x := ⟨ta, Aa, ca⟩) (y := bv) HTf.out.2.1 (by rw [HBv.out.1]; exact HTf.out.2.1) ((HTf.out.2.2.1.below hb).more hb.size) (HBv.out.2 _ (bthen HTf.out.1.2 hb)) HBv.out.1.symm
      have HRd : Hid (∀ w', Below w15.heap.size w15 w' → Calls Try.prog 14 #[.agg #[.int .i64 nx, .slice A l.length cap], .int .i64 id] w' fun e w'' => ∃ lz Az cz, e = .returned (.agg #[.int .i64 nx, .slice Az lz.length cz]) ∧ lz.map Tv.t = dropT id (l.map Tv.t) ∧ LIn w'' ⟨nx, lz, Az, cz⟩ ∧ Below w'.heap.size w' w'') := Lib.hid fun w' hb => by
        refine (rdrop_any ⟨nx, l, A, cap⟩ id w' (HI.out.on (bthen HTf.out.1.2 hb))).mono ?_
        rintro e w'' ⟨⟨ny, lz, Az, cz⟩, rfl, hny, hl, hin, hb2⟩
        obtain rfl : nx = ny := Eq.symm hny
        exact ⟨lz, Az, cz, rfl, by rw [show lz = l.flatMap (withS id tz true) from hl]; exact with_drop HRi.out, hin, hb2⟩
      have HA1 : Hid (∀ w' lz Az cz, lz.map Tv.t = dropT id (l.map Tv.t) → LIn w' ⟨nx, lz, Az, cz⟩ → Below w15.heap.size w15 w' → Calls Try.prog 9 #[.agg #[.int .i64 nx, .slice Ad ld.length cd], .agg #[.int .i64 nx, .slice Az lz.length cz]] w' fun e w'' => e = .returned (.bool true) ∧ Below w'.heap.size w' w'') := Lib.hid fun w' lz Az cz hm hi hb => by
        exact rsameall_yes (x := ⟨nx, ld, Ad, cd⟩) (y := ⟨nx, lz, Az, cz⟩) (HTf.out.2.2.2.on hb) hi ⟨rfl, by show ld.map Tv.t = lz.map Tv.t; rw [HDm.out, hm]⟩
      have HSt : Hid (∀ w', Below w15.heap.size w15 w' → Calls Try.prog 15 #[.agg #[.int .i64 nx, .slice A l.length cap], .agg #[.int .i64 t.id, .int .i64 t.bg, .slice At t.ws.length ct]] w' fun e w'' => ∃ ls As cs, e = .returned (.agg #[.int .i64 nx, .slice As ls.length cs]) ∧ ls.map Tv.t = setT t (l.map Tv.t) ∧ LIn w'' ⟨nx, ls, As, cs⟩ ∧ Below w'.heap.size w' w'') := Lib.hid fun w' hb => by
        refine (set_any ⟨nx, l, A, cap⟩ ⟨t, At, ct⟩ w' (HI.out.on (bthen HTf.out.1.2 hb)) HRi.out HTi.out ((HX.out.2.rd.below (bthen HTf.out.1.2 hb)).more (bthen HTf.out.1.2 hb).size)).mono ?_
        rintro e w'' ⟨⟨ny, ls, As, cs⟩, rfl, hny, hl, hown, hb2⟩
        obtain rfl : nx = ny := Eq.symm hny
        exact ⟨ls, As, cs, rfl, hl, hown.inS hl (by rw [len_set _ HRi.out, List.length_map]; exact HI.out.few) (fun q hq => by
          rcases mem_set HRi.out hq with rfl | hq
          · exact HTi.out
          · obtain ⟨z, hz, rfl⟩ := List.mem_map.1 hq; exact HI.out.each z hz), hb2⟩
      have HRs : Hid (∀ w', Below w15.heap.size w15 w' → Calls Try.prog 16 #[.agg #[.int .i64 nx, .slice A l.length cap], .agg #[.int .i64 t.id, .int .i64 t.bg, .slice At t.ws.length ct]] w' fun e w'' => ∃ ls As cs, e = .returned (.agg #[.int .i64 nx, .slice As ls.length cs]) ∧ ls.map Tv.t = setT t (l.map Tv.t) ∧ LIn w'' ⟨nx, ls, As, cs⟩ ∧ Below w'.heap.size w' w'') := Lib.hid fun w' hb => by
        refine (rset_any ⟨nx, l, A, cap⟩ ⟨t, At, ct⟩ w' (HI.out.on (bthen HTf.out.1.2 hb)) HTi.out ((HX.out.2.rd.below (bthen HTf.out.1.2 hb)).more (bthen HTf.out.1.2 hb).size)).mono ?_
        rintro e w'' ⟨⟨ny, ls, As, cs⟩, rfl, hny, hl, hin, hb2⟩
        obtain rfl : nx = ny := Eq.symm hny
        exact ⟨ls, As, cs, rfl, by rw [show ls = l.flatMap (withS t.id ⟨t, At, ct⟩ false) from hl]; exact with_set ⟨t, At, ct⟩ HRi.out, hin, hb2⟩
      have HA2 : Hid (∀ w' ls As cs lz Az cz, ls.map Tv.t = setT t (l.map Tv.t) → lz.map Tv.t = setT t (l.map Tv.t) → LIn w' ⟨nx, ls, As, cs⟩ → LIn w' ⟨nx, lz, Az, cz⟩ → Calls Try.prog 9 #[.agg #[.int .i64 nx, .slice As ls.length cs], .agg #[.int .i64 nx, .slice Az lz.length cz]] w' fun e w'' => e = .returned (.bool true) ∧ Below w'.heap.size w' w'') := Lib.hid fun w' ls As cs lz Az cz hm1 hm2 hi1 hi2 => by
        exact rsameall_yes (x := ⟨nx, ls, As, cs⟩) (y := ⟨nx, lz, Az, cz⟩) hi1 hi2 ⟨rfl, by show ls.map Tv.t = lz.map Tv.t; rw [hm1, hm2]⟩
      have HO1 : Hid (∀ w', Below w15.heap.size w15 w' → Calls Try.prog 17 #[.agg #[.int .i64 nx, .slice A l.length cap], .int .i64 now] w' fun e w'' => e = .returned (.int .i64 od) ∧ Below w'.heap.size w' w'') := Lib.hid fun w' hb => by
        rw [← Hod.out]
        exact oldest_any ⟨nx, l, A, cap⟩ now w' (HI.out.on (bthen HTf.out.1.2 hb))
      have HO2 : Hid (∀ w', Below w15.heap.size w15 w' → Calls Try.prog 18 #[.agg #[.int .i64 nx, .slice A l.length cap], .int .i64 now] w' fun e w'' => e = .returned (.int .i64 od) ∧ Below w'.heap.size w' w'') := Lib.hid fun w' hb => by
        rw [← Hod.out]
        exact roldest_any18 ⟨nx, l, A, cap⟩ now w' (HI.out.on (bthen HTf.out.1.2 hb))
      have HS0 := Lib.hid (HSO.out _ HTf.out.1.drew)
      go_wp2_with fail
      refine wp_region_heldT (fun w' => (w'.cell? ⟨w.heap.size, 0, none⟩ = some (.int .i64 nx) ∧ w'.cell? ⟨w.heap.size, 1, none⟩ = some (.slice A l.length cap)) ∧ (w'.cell? ⟨b7, 0, none⟩ = some (.int .i64 t.id) ∧ w'.cell? ⟨b7, 1, none⟩ = some (.int .i64 t.bg) ∧ w'.cell? ⟨b7, 2, none⟩ = some (.slice At t.ws.length ct)) ∧ (w'.cell? ⟨b13, 0, none⟩ = some (.int .i64 ta.id) ∧ w'.cell? ⟨b13, 1, none⟩ = some (.int .i64 ta.bg) ∧ w'.cell? ⟨b13, 2, none⟩ = some (.slice Aa ta.ws.length ca)) ∧ (w'.cell? ⟨b15, 0, none⟩ = some (.int .i64 bv.t.id) ∧ w'.cell? ⟨b15, 1, none⟩ = some (.int .i64 bv.t.bg) ∧ w'.cell? ⟨b15, 2, none⟩ = some (.slice bv.A bv.t.ws.length bv.cap)) ∧ (w'.cell? ⟨b17, 0, none⟩ = some (.int .i64 nx) ∧ w'.cell? ⟨b17, 1, none⟩ = some (.slice Ad ld.length cd))) 46 (by kernel_rfl) (by kernel_rfl) ?_
      refine heldT_take (i := 0) (oi := ⟨some 101, .load _ _, _, _, _, _⟩) (v := ?vya1) rfl (by kernel_rfl) (by decide) (by kernel_rfl) (by kernel_rfl) (fun _ _ _ h => h) (Or.inl ⟨by rfl, ?hyya1⟩) HS0.out ?restya1
      case hyya1 =>
        intro w hSw
        obtain ⟨⟨ha0, ha1⟩, ⟨hb0, hb1, hb2⟩, ⟨hc0, hc1, hc2⟩, ⟨hd0, hd1, hd2⟩, ⟨he0, he1⟩⟩ := hSw
        go_simp
        try with_reducible rfl
      try simp only [Act.put, List.setIfInBounds_toArray, List.set_cons_zero, List.set_cons_succ]
      refine heldT_take (i := 1) (oi := ⟨some 102, .load _ _, _, _, _, _⟩) (v := ?vya2) rfl (by kernel_rfl) (by decide) (by kernel_rfl) (by kernel_rfl) (fun _ _ _ h => h) (Or.inl ⟨by rfl, ?hyya2⟩) HS0.out ?restya2
      case hyya2 =>
        intro w hSw
        obtain ⟨⟨ha0, ha1⟩, ⟨hb0, hb1, hb2⟩, ⟨hc0, hc1, hc2⟩, ⟨hd0, hd1, hd2⟩, ⟨he0, he1⟩⟩ := hSw
        go_simp
        try with_reducible rfl
      try simp only [Act.put, List.setIfInBounds_toArray, List.set_cons_zero, List.set_cons_succ]
      refine heldT_one (i := 2) (o := ⟨some 103, .call _, _, _, _, _⟩) rfl (by kernel_rfl) (by decide) (fun K hK => ?_)
      go_simp
      refine (HSm.out _ (Below.refl _ _).drew).mono ?_
      rintro e wa ⟨rfl, hb1⟩
      have HBa := Lib.hid (bthen (Below.refl _ _).drew hb1)
      have HSa := Lib.hid (HSO.out _ (HTf.out.1.on HBa.out))
      clear hb1
      go_wp2_with fail
      refine hK.out _ _ (HSa.out) ?_
      clear hK K
      try simp only [Act.put, List.setIfInBounds_toArray, List.set_cons_zero, List.set_cons_succ]
      refine heldT_take (i := 3) (oi := ⟨some 104, .move _, _, _, _, _⟩) (v := ?vya3) rfl (by kernel_rfl) (by decide) (by kernel_rfl) (by kernel_rfl) (fun _ _ _ h => h) (Or.inl ⟨by rfl, ?hyya3⟩) HSa.out ?restya3
      case hyya3 =>
        intro w hSw
        obtain ⟨⟨ha0, ha1⟩, ⟨hb0, hb1, hb2⟩, ⟨hc0, hc1, hc2⟩, ⟨hd0, hd1, hd2⟩, ⟨he0, he1⟩⟩ := hSw
        go_simp
        try with_reducible rfl
      try simp only [Act.put, List.setIfInBounds_toArray, List.set_cons_zero, List.set_cons_succ]
      refine heldT_take (i := 4) (oi := ⟨some 105, .move _, _, _, _, _⟩) (v := ?vya4) rfl (by kernel_rfl) (by decide) (by kernel_rfl) (by kernel_rfl) (fun _ _ _ h => h) (Or.inl ⟨by rfl, ?hyya4⟩) HSa.out ?restya4
      case hyya4 =>
        intro w hSw
        obtain ⟨⟨ha0, ha1⟩, ⟨hb0, hb1, hb2⟩, ⟨hc0, hc1, hc2⟩, ⟨hd0, hd1, hd2⟩, ⟨he0, he1⟩⟩ := hSw
        go_simp
        try with_reducible rfl
      try simp only [Act.put, List.setIfInBounds_toArray, List.set_cons_zero, List.set_cons_succ]
      refine heldT_take (i := 6) (oi := ⟨some 107, .move _, _, _, _, _⟩) (v := ?vya5) rfl (by kernel_rfl) (by decide) (by kernel_rfl) (by kernel_rfl) (fun _ _ _ h => h) (Or.inl ⟨by rfl, ?hyya5⟩) HSa.out ?restya5
      case hyya5 =>
        intro w hSw
        obtain ⟨⟨ha0, ha1⟩, ⟨hb0, hb1, hb2⟩, ⟨hc0, hc1, hc2⟩, ⟨hd0, hd1, hd2⟩, ⟨he0, he1⟩⟩ := hSw
        go_simp
        try with_reducible rfl
      try simp only [Act.put, List.setIfInBounds_toArray, List.set_cons_zero, List.set_cons_succ]
      refine heldT_take (i := 5) (oi := ⟨some 106, .binOp _ _ _ _ _, _, _, _, _⟩) (v := ?vya6) rfl (by kernel_rfl) (by decide) (by kernel_rfl) (by kernel_rfl) (fun _ _ _ h => h) (Or.inl ⟨by rfl, ?hyya6⟩) HSa.out ?restya6
      case hyya6 =>
        intro w hSw
        obtain ⟨⟨ha0, ha1⟩, ⟨hb0, hb1, hb2⟩, ⟨hc0, hc1, hc2⟩, ⟨hd0, hd1, hd2⟩, ⟨he0, he1⟩⟩ := hSw
        go_simp
        try with_reducible rfl
      try simp only [Act.put, List.setIfInBounds_toArray, List.set_cons_zero, List.set_cons_succ]
      refine heldT_take (i := 7) (oi := ⟨some 108, .binOp _ _ _ _ _, _, _, _, _⟩) (v := ?vya7) rfl (by kernel_rfl) (by decide) (by kernel_rfl) (by kernel_rfl) (fun _ _ _ h => h) (Or.inl ⟨by rfl, ?hyya7⟩) HSa.out ?restya7
      case hyya7 =>
        intro w hSw
        obtain ⟨⟨ha0, ha1⟩, ⟨hb0, hb1, hb2⟩, ⟨hc0, hc1, hc2⟩, ⟨hd0, hd1, hd2⟩, ⟨he0, he1⟩⟩ := hSw
        go_simp
        try with_reducible rfl
      try simp only [Act.put, List.setIfInBounds_toArray, List.set_cons_zero, List.set_cons_succ]
      refine heldT_take (i := 8) (oi := ⟨some 109, .pick _ _ _, _, _, _, _⟩) (v := ?vya8) rfl (by kernel_rfl) (by decide) (by kernel_rfl) (by kernel_rfl) (fun _ _ _ h => h) (Or.inl ⟨by rfl, ?hyya8⟩) HSa.out ?restya8
      case hyya8 =>
        intro w hSw
        obtain ⟨⟨ha0, ha1⟩, ⟨hb0, hb1, hb2⟩, ⟨hc0, hc1, hc2⟩, ⟨hd0, hd1, hd2⟩, ⟨he0, he1⟩⟩ := hSw
        go_simp
        try with_reducible rfl
      try simp only [Act.put, List.setIfInBounds_toArray, List.set_cons_zero, List.set_cons_succ]
      refine heldT_take (i := 9) (oi := ⟨some 110, .move _, _, _, _, _⟩) (v := ?vya9) rfl (by kernel_rfl) (by decide) (by kernel_rfl) (by kernel_rfl) (fun _ _ _ h => h) (Or.inl ⟨by rfl, ?hyya9⟩) HSa.out ?restya9
      case hyya9 =>
        intro w hSw
        obtain ⟨⟨ha0, ha1⟩, ⟨hb0, hb1, hb2⟩, ⟨hc0, hc1, hc2⟩, ⟨hd0, hd1, hd2⟩, ⟨he0, he1⟩⟩ := hSw
        go_simp
        try with_reducible rfl
      try simp only [Act.put, List.setIfInBounds_toArray, List.set_cons_zero, List.set_cons_succ]
      refine heldT_take (i := 10) (oi := ⟨some 111, .move _, _, _, _, _⟩) (v := ?vya10) rfl (by kernel_rfl) (by decide) (by kernel_rfl) (by kernel_rfl) (fun _ _ _ h => h) (Or.inl ⟨by rfl, ?hyya10⟩) HSa.out ?restya10
      case hyya10 =>
        intro w hSw
        obtain ⟨⟨ha0, ha1⟩, ⟨hb0, hb1, hb2⟩, ⟨hc0, hc1, hc2⟩, ⟨hd0, hd1, hd2⟩, ⟨he0, he1⟩⟩ := hSw
        go_simp
        try with_reducible rfl
      try simp only [Act.put, List.setIfInBounds_toArray, List.set_cons_zero, List.set_cons_succ]
      refine heldT_take (i := 11) (oi := ⟨some 112, .move _, _, _, _, _⟩) (v := ?vya11) rfl (by kernel_rfl) (by decide) (by kernel_rfl) (by kernel_rfl) (fun _ _ _ h => h) (Or.inl ⟨by rfl, ?hyya11⟩) HSa.out ?restya11
      case hyya11 =>
        intro w hSw
        obtain ⟨⟨ha0, ha1⟩, ⟨hb0, hb1, hb2⟩, ⟨hc0, hc1, hc2⟩, ⟨hd0, hd1, hd2⟩, ⟨he0, he1⟩⟩ := hSw
        go_simp
        try with_reducible rfl
      try simp only [Act.put, List.setIfInBounds_toArray, List.set_cons_zero, List.set_cons_succ]
      refine heldT_take (i := 12) (oi := ⟨some 113, .move _, _, _, _, _⟩) (v := undef) rfl (by kernel_rfl) (by decide) (by kernel_rfl) (by kernel_rfl) (fun _ _ _ h => h) (Or.inr ⟨by rfl, rfl⟩) HSa.out ?restya12
      try simp only [Act.put, List.setIfInBounds_toArray, List.set_cons_zero, List.set_cons_succ]
      refine heldT_take (i := 13) (oi := ⟨some 114, .binOp _ _ _ _ _, _, _, _, _⟩) (v := undef) rfl (by kernel_rfl) (by decide) (by kernel_rfl) (by kernel_rfl) (fun _ _ _ h => h) (Or.inr ⟨by rfl, rfl⟩) HSa.out ?restya13
      try simp only [Act.put, List.setIfInBounds_toArray, List.set_cons_zero, List.set_cons_succ]
      refine heldT_take (i := 14) (oi := ⟨some 115, .pick _ _ _, _, _, _, _⟩) (v := ?vya14) rfl (by kernel_rfl) (by decide) (by kernel_rfl) (by kernel_rfl) (fun _ _ _ h => h) (Or.inl ⟨by rfl, ?hyya14⟩) HSa.out ?restya14
      case hyya14 =>
        intro w hSw
        obtain ⟨⟨ha0, ha1⟩, ⟨hb0, hb1, hb2⟩, ⟨hc0, hc1, hc2⟩, ⟨hd0, hd1, hd2⟩, ⟨he0, he1⟩⟩ := hSw
        go_simp
        try with_reducible rfl
      try simp only [Act.put, List.setIfInBounds_toArray, List.set_cons_zero, List.set_cons_succ]
      refine heldT_take (i := 15) (oi := ⟨some 116, .pick _ _ _, _, _, _, _⟩) (v := ?vya15) rfl (by kernel_rfl) (by decide) (by kernel_rfl) (by kernel_rfl) (fun _ _ _ h => h) (Or.inl ⟨by rfl, ?hyya15⟩) HSa.out ?restya15
      case hyya15 =>
        intro w hSw
        obtain ⟨⟨ha0, ha1⟩, ⟨hb0, hb1, hb2⟩, ⟨hc0, hc1, hc2⟩, ⟨hd0, hd1, hd2⟩, ⟨he0, he1⟩⟩ := hSw
        go_simp
        try with_reducible rfl
      try simp only [Act.put, List.setIfInBounds_toArray, List.set_cons_zero, List.set_cons_succ]
      refine heldT_take (i := 16) (oi := ⟨some 117, .move _, _, _, _, _⟩) (v := ?vya16) rfl (by kernel_rfl) (by decide) (by kernel_rfl) (by kernel_rfl) (fun _ _ _ h => h) (Or.inl ⟨by rfl, ?hyya16⟩) HSa.out ?restya16
      case hyya16 =>
        intro w hSw
        obtain ⟨⟨ha0, ha1⟩, ⟨hb0, hb1, hb2⟩, ⟨hc0, hc1, hc2⟩, ⟨hd0, hd1, hd2⟩, ⟨he0, he1⟩⟩ := hSw
        go_simp
        try with_reducible rfl
      try simp only [Act.put, List.setIfInBounds_toArray, List.set_cons_zero, List.set_cons_succ]
      refine heldT_take (i := 17) (oi := ⟨some 118, .move _, _, _, _, _⟩) (v := ?vya17) rfl (by kernel_rfl) (by decide) (by kernel_rfl) (by kernel_rfl) (fun _ _ _ h => h) (Or.inl ⟨by rfl, ?hyya17⟩) HSa.out ?restya17
      case hyya17 =>
        intro w hSw
        obtain ⟨⟨ha0, ha1⟩, ⟨hb0, hb1, hb2⟩, ⟨hc0, hc1, hc2⟩, ⟨hd0, hd1, hd2⟩, ⟨he0, he1⟩⟩ := hSw
        go_simp
        try with_reducible rfl
      try simp only [Act.put, List.setIfInBounds_toArray, List.set_cons_zero, List.set_cons_succ]
      refine heldT_take (i := 18) (oi := ⟨some 119, .move _, _, _, _, _⟩) (v := ?vya18) rfl (by kernel_rfl) (by decide) (by kernel_rfl) (by kernel_rfl) (fun _ _ _ h => h) (Or.inl ⟨by rfl, ?hyya18⟩) HSa.out ?restya18
      case hyya18 =>
        intro w hSw
        obtain ⟨⟨ha0, ha1⟩, ⟨hb0, hb1, hb2⟩, ⟨hc0, hc1, hc2⟩, ⟨hd0, hd1, hd2⟩, ⟨he0, he1⟩⟩ := hSw
        go_simp
        try with_reducible rfl
      try simp only [Act.put, List.setIfInBounds_toArray, List.set_cons_zero, List.set_cons_succ]
      refine heldT_take (i := 19) (oi := ⟨some 120, .binOp _ _ _ _ _, _, _, _, _⟩) (v := ?vya19) rfl (by kernel_rfl) (by decide) (by kernel_rfl) (by kernel_rfl) (fun _ _ _ h => h) (Or.inl ⟨by rfl, ?hyya19⟩) HSa.out ?restya19
      case hyya19 =>
        intro w hSw
        obtain ⟨⟨ha0, ha1⟩, ⟨hb0, hb1, hb2⟩, ⟨hc0, hc1, hc2⟩, ⟨hd0, hd1, hd2⟩, ⟨he0, he1⟩⟩ := hSw
        go_simp
        try with_reducible rfl
      try simp only [Act.put, List.setIfInBounds_toArray, List.set_cons_zero, List.set_cons_succ]
      refine heldT_take (i := 20) (oi := ⟨some 121, .pick _ _ _, _, _, _, _⟩) (v := ?vya20) rfl (by kernel_rfl) (by decide) (by kernel_rfl) (by kernel_rfl) (fun _ _ _ h => h) (Or.inl ⟨by rfl, ?hyya20⟩) HSa.out ?restya20
      case hyya20 =>
        intro w hSw
        obtain ⟨⟨ha0, ha1⟩, ⟨hb0, hb1, hb2⟩, ⟨hc0, hc1, hc2⟩, ⟨hd0, hd1, hd2⟩, ⟨he0, he1⟩⟩ := hSw
        go_simp
        try with_reducible rfl
      try simp only [Act.put, List.setIfInBounds_toArray, List.set_cons_zero, List.set_cons_succ]
      refine heldT_take (i := 21) (oi := ⟨some 122, .move _, _, _, _, _⟩) (v := ?vya21) rfl (by kernel_rfl) (by decide) (by kernel_rfl) (by kernel_rfl) (fun _ _ _ h => h) (Or.inl ⟨by rfl, ?hyya21⟩) HSa.out ?restya21
      case hyya21 =>
        intro w hSw
        obtain ⟨⟨ha0, ha1⟩, ⟨hb0, hb1, hb2⟩, ⟨hc0, hc1, hc2⟩, ⟨hd0, hd1, hd2⟩, ⟨he0, he1⟩⟩ := hSw
        go_simp
        try with_reducible rfl
      try simp only [Act.put, List.setIfInBounds_toArray, List.set_cons_zero, List.set_cons_succ]
      refine heldT_take (i := 22) (oi := ⟨some 123, .load _ _, _, _, _, _⟩) (v := ?vya22) rfl (by kernel_rfl) (by decide) (by kernel_rfl) (by kernel_rfl) (fun _ _ _ h => h) (Or.inl ⟨by rfl, ?hyya22⟩) HSa.out ?restya22
      case hyya22 =>
        intro w hSw
        obtain ⟨⟨ha0, ha1⟩, ⟨hb0, hb1, hb2⟩, ⟨hc0, hc1, hc2⟩, ⟨hd0, hd1, hd2⟩, ⟨he0, he1⟩⟩ := hSw
        go_simp
        try with_reducible rfl
      try simp only [Act.put, List.setIfInBounds_toArray, List.set_cons_zero, List.set_cons_succ]
      refine heldT_take (i := 23) (oi := ⟨some 124, .load _ _, _, _, _, _⟩) (v := ?vya23) rfl (by kernel_rfl) (by decide) (by kernel_rfl) (by kernel_rfl) (fun _ _ _ h => h) (Or.inl ⟨by rfl, ?hyya23⟩) HSa.out ?restya23
      case hyya23 =>
        intro w hSw
        obtain ⟨⟨ha0, ha1⟩, ⟨hb0, hb1, hb2⟩, ⟨hc0, hc1, hc2⟩, ⟨hd0, hd1, hd2⟩, ⟨he0, he1⟩⟩ := hSw
        go_simp
        try with_reducible rfl
      try simp only [Act.put, List.setIfInBounds_toArray, List.set_cons_zero, List.set_cons_succ]
      refine heldT_take (i := 24) (oi := ⟨some 125, .move _, _, _, _, _⟩) (v := ?vya24) rfl (by kernel_rfl) (by decide) (by kernel_rfl) (by kernel_rfl) (fun _ _ _ h => h) (Or.inl ⟨by rfl, ?hyya24⟩) HSa.out ?restya24
      case hyya24 =>
        intro w hSw
        obtain ⟨⟨ha0, ha1⟩, ⟨hb0, hb1, hb2⟩, ⟨hc0, hc1, hc2⟩, ⟨hd0, hd1, hd2⟩, ⟨he0, he1⟩⟩ := hSw
        go_simp
        try with_reducible rfl
      try simp only [Act.put, List.setIfInBounds_toArray, List.set_cons_zero, List.set_cons_succ]
      refine heldT_one (i := 25) (o := ⟨some 126, .call _, _, _, _, _⟩) rfl (by kernel_rfl) (by decide) (fun K hK => ?_)
      go_simp
      refine (HRd.out _ HBa.out).mono ?_
      rintro e wb ⟨lq, Aq, cq, rfl, hm1, hi1, hb1⟩
      have HBb := Lib.hid (bthen HBa.out hb1)
      have HSb := Lib.hid (HSO.out _ (HTf.out.1.on HBb.out))
      have HQ := Lib.hid (And.intro hm1 hi1)
      clear hm1 hi1 hb1
      go_wp2_with fail
      refine hK.out _ _ (HSb.out) ?_
      clear hK K
      try simp only [Act.put, List.setIfInBounds_toArray, List.set_cons_zero, List.set_cons_succ]
      refine heldT_one (i := 26) (o := ⟨some 127, .call _, _, _, _, _⟩) rfl (by kernel_rfl) (by decide) (fun K hK => ?_)
      go_simp
      refine (HA1.out _ lq Aq cq HQ.out.1 HQ.out.2 HBb.out).mono ?_
      rintro e wc ⟨rfl, hb1⟩
      have HBc := Lib.hid (bthen HBb.out hb1)
      have HSc := Lib.hid (HSO.out _ (HTf.out.1.on HBc.out))
      clear hb1
      go_wp2_with fail
      refine hK.out _ _ (HSc.out) ?_
      clear hK K
      try simp only [Act.put, List.setIfInBounds_toArray, List.set_cons_zero, List.set_cons_succ]
      refine heldT_take (i := 27) (oi := ⟨some 128, .pick _ _ _, _, _, _, _⟩) (v := ?vya25) rfl (by kernel_rfl) (by decide) (by kernel_rfl) (by kernel_rfl) (fun _ _ _ h => h) (Or.inl ⟨by rfl, ?hyya25⟩) HSc.out ?restya25
      case hyya25 =>
        intro w hSw
        obtain ⟨⟨ha0, ha1⟩, ⟨hb0, hb1, hb2⟩, ⟨hc0, hc1, hc2⟩, ⟨hd0, hd1, hd2⟩, ⟨he0, he1⟩⟩ := hSw
        go_simp
        try with_reducible rfl
      try simp only [Act.put, List.setIfInBounds_toArray, List.set_cons_zero, List.set_cons_succ]
      refine heldT_take (i := 28) (oi := ⟨some 129, .move _, _, _, _, _⟩) (v := ?vya26) rfl (by kernel_rfl) (by decide) (by kernel_rfl) (by kernel_rfl) (fun _ _ _ h => h) (Or.inl ⟨by rfl, ?hyya26⟩) HSc.out ?restya26
      case hyya26 =>
        intro w hSw
        obtain ⟨⟨ha0, ha1⟩, ⟨hb0, hb1, hb2⟩, ⟨hc0, hc1, hc2⟩, ⟨hd0, hd1, hd2⟩, ⟨he0, he1⟩⟩ := hSw
        go_simp
        try with_reducible rfl
      try simp only [Act.put, List.setIfInBounds_toArray, List.set_cons_zero, List.set_cons_succ]
      refine heldT_take (i := 29) (oi := ⟨some 130, .load _ _, _, _, _, _⟩) (v := ?vya27) rfl (by kernel_rfl) (by decide) (by kernel_rfl) (by kernel_rfl) (fun _ _ _ h => h) (Or.inl ⟨by rfl, ?hyya27⟩) HSc.out ?restya27
      case hyya27 =>
        intro w hSw
        obtain ⟨⟨ha0, ha1⟩, ⟨hb0, hb1, hb2⟩, ⟨hc0, hc1, hc2⟩, ⟨hd0, hd1, hd2⟩, ⟨he0, he1⟩⟩ := hSw
        go_simp
        try with_reducible rfl
      try simp only [Act.put, List.setIfInBounds_toArray, List.set_cons_zero, List.set_cons_succ]
      refine heldT_take (i := 30) (oi := ⟨some 131, .load _ _, _, _, _, _⟩) (v := ?vya28) rfl (by kernel_rfl) (by decide) (by kernel_rfl) (by kernel_rfl) (fun _ _ _ h => h) (Or.inl ⟨by rfl, ?hyya28⟩) HSc.out ?restya28
      case hyya28 =>
        intro w hSw
        obtain ⟨⟨ha0, ha1⟩, ⟨hb0, hb1, hb2⟩, ⟨hc0, hc1, hc2⟩, ⟨hd0, hd1, hd2⟩, ⟨he0, he1⟩⟩ := hSw
        go_simp
        try with_reducible rfl
      try simp only [Act.put, List.setIfInBounds_toArray, List.set_cons_zero, List.set_cons_succ]
      refine heldT_take (i := 32) (oi := ⟨some 133, .load _ _, _, _, _, _⟩) (v := ?vya29) rfl (by kernel_rfl) (by decide) (by kernel_rfl) (by kernel_rfl) (fun _ _ _ h => h) (Or.inl ⟨by rfl, ?hyya29⟩) HSc.out ?restya29
      case hyya29 =>
        intro w hSw
        obtain ⟨⟨ha0, ha1⟩, ⟨hb0, hb1, hb2⟩, ⟨hc0, hc1, hc2⟩, ⟨hd0, hd1, hd2⟩, ⟨he0, he1⟩⟩ := hSw
        go_simp
        try with_reducible rfl
      try simp only [Act.put, List.setIfInBounds_toArray, List.set_cons_zero, List.set_cons_succ]
      refine heldT_take (i := 33) (oi := ⟨some 134, .load _ _, _, _, _, _⟩) (v := ?vya30) rfl (by kernel_rfl) (by decide) (by kernel_rfl) (by kernel_rfl) (fun _ _ _ h => h) (Or.inl ⟨by rfl, ?hyya30⟩) HSc.out ?restya30
      case hyya30 =>
        intro w hSw
        obtain ⟨⟨ha0, ha1⟩, ⟨hb0, hb1, hb2⟩, ⟨hc0, hc1, hc2⟩, ⟨hd0, hd1, hd2⟩, ⟨he0, he1⟩⟩ := hSw
        go_simp
        try with_reducible rfl
      try simp only [Act.put, List.setIfInBounds_toArray, List.set_cons_zero, List.set_cons_succ]
      refine heldT_one (i := 31) (o := ⟨some 132, .call _, _, _, _, _⟩) rfl (by kernel_rfl) (by decide) (fun K hK => ?_)
      go_simp
      refine (HSt.out _ HBc.out).mono ?_
      rintro e wd ⟨ls, As, cs, rfl, hm1, hi1, hb1⟩
      have HBd := Lib.hid (bthen HBc.out hb1)
      have HSd := Lib.hid (HSO.out _ (HTf.out.1.on HBd.out))
      have HP := Lib.hid (And.intro hm1 hi1)
      clear hm1 hi1 hb1
      go_wp2_with fail
      refine hK.out _ _ (HSd.out) ?_
      clear hK K
      try simp only [Act.put, List.setIfInBounds_toArray, List.set_cons_zero, List.set_cons_succ]
      refine heldT_one (i := 34) (o := ⟨some 135, .call _, _, _, _, _⟩) rfl (by kernel_rfl) (by decide) (fun K hK => ?_)
      go_simp
      refine (HRs.out _ HBd.out).mono ?_
      rintro e we ⟨lp, Ap, cp, rfl, hm1, hi1, hb1⟩
      have HBe := Lib.hid (bthen HBd.out hb1)
      have HSe := Lib.hid (HSO.out _ (HTf.out.1.on HBe.out))
      have HP2 := Lib.hid (And.intro (HP.out.2.on hb1) (And.intro hm1 hi1))
      clear hm1 hi1 hb1
      go_wp2_with fail
      refine hK.out _ _ (HSe.out) ?_
      clear hK K
      try simp only [Act.put, List.setIfInBounds_toArray, List.set_cons_zero, List.set_cons_succ]
      refine heldT_one (i := 35) (o := ⟨some 136, .call _, _, _, _, _⟩) rfl (by kernel_rfl) (by decide) (fun K hK => ?_)
      go_simp
      refine (HA2.out _ ls As cs lp Ap cp HP.out.1 HP2.out.2.1 HP2.out.1 HP2.out.2.2).mono ?_
      rintro e wf ⟨rfl, hb1⟩
      have HBf2 := Lib.hid (bthen HBe.out hb1)
      have HSf := Lib.hid (HSO.out _ (HTf.out.1.on HBf2.out))
      clear hb1
      go_wp2_with fail
      refine hK.out _ _ (HSf.out) ?_
      clear hK K
      try simp only [Act.put, List.setIfInBounds_toArray, List.set_cons_zero, List.set_cons_succ]
      refine heldT_take (i := 36) (oi := ⟨some 137, .pick _ _ _, _, _, _, _⟩) (v := ?vya31) rfl (by kernel_rfl) (by decide) (by kernel_rfl) (by kernel_rfl) (fun _ _ _ h => h) (Or.inl ⟨by rfl, ?hyya31⟩) HSf.out ?restya31
      case hyya31 =>
        intro w hSw
        obtain ⟨⟨ha0, ha1⟩, ⟨hb0, hb1, hb2⟩, ⟨hc0, hc1, hc2⟩, ⟨hd0, hd1, hd2⟩, ⟨he0, he1⟩⟩ := hSw
        go_simp
        try with_reducible rfl
      try simp only [Act.put, List.setIfInBounds_toArray, List.set_cons_zero, List.set_cons_succ]
      refine heldT_take (i := 37) (oi := ⟨some 138, .move _, _, _, _, _⟩) (v := ?vya32) rfl (by kernel_rfl) (by decide) (by kernel_rfl) (by kernel_rfl) (fun _ _ _ h => h) (Or.inl ⟨by rfl, ?hyya32⟩) HSf.out ?restya32
      case hyya32 =>
        intro w hSw
        obtain ⟨⟨ha0, ha1⟩, ⟨hb0, hb1, hb2⟩, ⟨hc0, hc1, hc2⟩, ⟨hd0, hd1, hd2⟩, ⟨he0, he1⟩⟩ := hSw
        go_simp
        try with_reducible rfl
      try simp only [Act.put, List.setIfInBounds_toArray, List.set_cons_zero, List.set_cons_succ]
      refine heldT_take (i := 38) (oi := ⟨some 139, .load _ _, _, _, _, _⟩) (v := ?vya33) rfl (by kernel_rfl) (by decide) (by kernel_rfl) (by kernel_rfl) (fun _ _ _ h => h) (Or.inl ⟨by rfl, ?hyya33⟩) HSf.out ?restya33
      case hyya33 =>
        intro w hSw
        obtain ⟨⟨ha0, ha1⟩, ⟨hb0, hb1, hb2⟩, ⟨hc0, hc1, hc2⟩, ⟨hd0, hd1, hd2⟩, ⟨he0, he1⟩⟩ := hSw
        go_simp
        try with_reducible rfl
      try simp only [Act.put, List.setIfInBounds_toArray, List.set_cons_zero, List.set_cons_succ]
      refine heldT_take (i := 39) (oi := ⟨some 140, .move _, _, _, _, _⟩) (v := ?vya34) rfl (by kernel_rfl) (by decide) (by kernel_rfl) (by kernel_rfl) (fun _ _ _ h => h) (Or.inl ⟨by rfl, ?hyya34⟩) HSf.out ?restya34
      case hyya34 =>
        intro w hSw
        obtain ⟨⟨ha0, ha1⟩, ⟨hb0, hb1, hb2⟩, ⟨hc0, hc1, hc2⟩, ⟨hd0, hd1, hd2⟩, ⟨he0, he1⟩⟩ := hSw
        go_simp
        try with_reducible rfl
      try simp only [Act.put, List.setIfInBounds_toArray, List.set_cons_zero, List.set_cons_succ]
      refine heldT_take (i := 41) (oi := ⟨some 142, .load _ _, _, _, _, _⟩) (v := ?vya35) rfl (by kernel_rfl) (by decide) (by kernel_rfl) (by kernel_rfl) (fun _ _ _ h => h) (Or.inl ⟨by rfl, ?hyya35⟩) HSf.out ?restya35
      case hyya35 =>
        intro w hSw
        obtain ⟨⟨ha0, ha1⟩, ⟨hb0, hb1, hb2⟩, ⟨hc0, hc1, hc2⟩, ⟨hd0, hd1, hd2⟩, ⟨he0, he1⟩⟩ := hSw
        go_simp
        try with_reducible rfl
      try simp only [Act.put, List.setIfInBounds_toArray, List.set_cons_zero, List.set_cons_succ]
      refine heldT_take (i := 42) (oi := ⟨some 143, .move _, _, _, _, _⟩) (v := ?vya36) rfl (by kernel_rfl) (by decide) (by kernel_rfl) (by kernel_rfl) (fun _ _ _ h => h) (Or.inl ⟨by rfl, ?hyya36⟩) HSf.out ?restya36
      case hyya36 =>
        intro w hSw
        obtain ⟨⟨ha0, ha1⟩, ⟨hb0, hb1, hb2⟩, ⟨hc0, hc1, hc2⟩, ⟨hd0, hd1, hd2⟩, ⟨he0, he1⟩⟩ := hSw
        go_simp
        try with_reducible rfl
      try simp only [Act.put, List.setIfInBounds_toArray, List.set_cons_zero, List.set_cons_succ]
      refine heldT_one (i := 40) (o := ⟨some 141, .call _, _, _, _, _⟩) rfl (by kernel_rfl) (by decide) (fun K hK => ?_)
      go_simp
      refine (HO1.out _ HBf2.out).mono ?_
      rintro e wg ⟨rfl, hb1⟩
      have HBg := Lib.hid (bthen HBf2.out hb1)
      have HSg := Lib.hid (HSO.out _ (HTf.out.1.on HBg.out))
      clear hb1
      go_wp2_with fail
      refine hK.out _ _ (HSg.out) ?_
      clear hK K
      try simp only [Act.put, List.setIfInBounds_toArray, List.set_cons_zero, List.set_cons_succ]
      refine heldT_one (i := 43) (o := ⟨some 144, .call _, _, _, _, _⟩) rfl (by kernel_rfl) (by decide) (fun K hK => ?_)
      go_simp
      refine (HO2.out _ HBg.out).mono ?_
      rintro e wh ⟨rfl, hb1⟩
      have HBh := Lib.hid (bthen HBg.out hb1)
      have HSh := Lib.hid (HSO.out _ (HTf.out.1.on HBh.out))
      clear hb1
      go_wp2_with fail
      refine hK.out _ _ (HSh.out) ?_
      clear hK K
      try simp only [Act.put, List.setIfInBounds_toArray, List.set_cons_zero, List.set_cons_succ]
      refine heldT_take (i := 44) (oi := ⟨some 145, .binOp _ _ _ _ _, _, _, _, _⟩) (v := ?vya37) rfl (by kernel_rfl) (by decide) (by kernel_rfl) (by kernel_rfl) (fun _ _ _ h => h) (Or.inl ⟨by rfl, ?hyya37⟩) HSh.out ?restya37
      case hyya37 =>
        intro w hSw
        obtain ⟨⟨ha0, ha1⟩, ⟨hb0, hb1, hb2⟩, ⟨hc0, hc1, hc2⟩, ⟨hd0, hd1, hd2⟩, ⟨he0, he1⟩⟩ := hSw
        go_simp
        try with_reducible rfl
      try simp only [Act.put, List.setIfInBounds_toArray, List.set_cons_zero, List.set_cons_succ]
      refine heldT_take (i := 45) (oi := ⟨some 146, .pick _ _ _, _, _, _, _⟩) (v := ?vya38) rfl (by kernel_rfl) (by decide) (by kernel_rfl) (by kernel_rfl) (fun _ _ _ h => h) (Or.inl ⟨by rfl, ?hyya38⟩) HSh.out ?restya38
      case hyya38 =>
        intro w hSw
        obtain ⟨⟨ha0, ha1⟩, ⟨hb0, hb1, hb2⟩, ⟨hc0, hc1, hc2⟩, ⟨hd0, hd1, hd2⟩, ⟨he0, he1⟩⟩ := hSw
        go_simp
        try with_reducible rfl
      try simp only [Act.put, List.setIfInBounds_toArray, List.set_cons_zero, List.set_cons_succ]
      refine heldT_done (by kernel_rfl) ?_
      go_wp2
      go_ret
      exact ⟨rfl, bthen HTf.out.1.2 HBh.out⟩
  · have hl16 : ((l.length : Int) == 16) = false := by simp; omega
    have hl15 : l.length < 16 := by have := HF.out.1; omega
    have HL := Lib.hid hl15
    clear hl
    go_enter Try.func3, Try.ntmps3
    go_wp2_with (first
      | ((with_reducible refine wpList_box_box _ (o := ⟨some 4, .box _ _, _, _, _, _⟩) rfl _ _ rfl (lgc ⟨nx, l, A, cap⟩) rfl ?_); intro w1 x1 B1 s1)
      | ((with_reducible refine wpList_box_box _ (o := ⟨some 7, .box _ _, _, _, _, _⟩) rfl _ _ rfl (tnc ⟨t, At, ct⟩) rfl ?_); intro w2 x2 B2 s2; have HT2 := Lib.hid ((HZ.out.add B1 x1).add B2 x2); clear x1 B1 s1 x2 B2 s2; generalize w1.heap.size = b7 at *)
      | fail)
    refine (awake18_any _).mono ?_
    rintro e w3 ⟨rfl, hb⟩
    have HT3 := Lib.hid (HT2.out.on hb)
    obtain ⟨c0, c1⟩ := HT3.out.cellsL (.tail _ (.head _))
    clear hb HT2
    go_wp2_with fail
    refine (HR.out _ HT3.out.2).mono ?_
    rintro e w4 ⟨rfl, hb⟩
    have HT4 := Lib.hid (HT3.out.on hb)
    clear hb c0 c1 HT3
    obtain ⟨z0, z1, z2⟩ := HT4.out.cellsT (.head _)
    go_wp2_with fail
    refine (HR2.out _ HT4.out.2).mono ?_
    rintro e w5 ⟨rfl, hb⟩
    have HT5 := Lib.hid (HT4.out.on hb)
    clear hb z0 z1 z2 HT4
    obtain ⟨c0, c1⟩ := HT5.out.cellsL (.tail _ (.head _))
    go_wp2_with fail
    refine (begin_yes (x := ⟨nx, l, A, cap⟩) (now := now) (HI.out.on HT5.out.2) HF.out.2 HL.out).mono ?_
    rintro e w6 ⟨⟨ny, lm, Am, cm⟩, rfl, hny, hmap, hown, hb⟩
    have hny : ny = nx + 1 := hny
    subst hny
    have hmap : lm.map Tv.t = l.map Tv.t ++ [⟨nx, now, []⟩] := hmap
    have HT6 := Lib.hid (And.intro (HT5.out.on hb) (hown.inS hmap (by simp; omega) (fun t ht => by
      rcases List.mem_append.1 ht with ht | ht
      · obtain ⟨z, hz, rfl⟩ := List.mem_map.1 ht; exact HI.out.each z hz
      · rw [List.mem_singleton.1 ht]; exact ⟨Nat.zero_le _, fun o ho => by cases ho⟩)))
    have HM := Lib.hid hmap
    clear hmap hown hb c0 c1 HT5
    go_wp2_with (first
      | ((with_reducible refine wpList_alloc_box _ (o := ⟨some 9, .alloc _, _, _, _, _⟩) rfl _ rfl (lgc lz) zero_lg ?_); intro w70 x70 B70 s70)
      | ((with_reducible refine wpList_store_var _ (o := ⟨none, .store _ (.tmp 9) _, _, _, _, _⟩) rfl 24 _ _ rfl w6.heap.size (lgc ⟨nx + 1, lm, Am, cm⟩) (lgc lz) (lg_size _) rfl (lgc_one _) rfl rfl x70 ?_); go_loud (intro w7 x7 g7; have K7 := below_stored B70 g7 B70.size (Nat.le_refl _); have HT7 := Lib.hid (And.intro (HT6.out.1.made B70 g7 x7) (HT6.out.2.on K7)); obtain ⟨c0, c1⟩ := HT7.out.1.cellsL (.tail _ (.tail _ (.head _))); clear x70 B70 s70 g7 x7 K7; generalize w6.heap.size = b9 at *))      | fail)
    clear HT6
    obtain ⟨n, hn⟩ : ∃ n, l.length = n := ⟨_, rfl⟩
    have HN := Lib.hid hn
    have hn16 : n ≤ 16 := by omega
    have hnx0 : 0 ≤ nx := HF.out.2.1
    have hnx1 : nx ≤ 1099511627776 := HF.out.2.2
    have hwi : IntKind.i64.wrap (nx + 1) = nx + 1 := by rw [IntKind.wrap_i64]; omega
    obtain ⟨C, hC⟩ : ∃ C, tns l = C := ⟨_, rfl⟩
    have HC := Lib.hid (show C.length = n * 3 by rw [← hC, tns_length, hn])
    have HC1 := Lib.hid (show ∀ u ∈ C, u.oneCell' = true by rw [← hC]; exact tns_one l)
    have HCe := Lib.hid hC
    have SO := Lib.hid fun w' (h : Below w7.heap.size w7 w') => (⟨((HT7.out.1.on h).cellsL (.tail _ (.tail _ (.head _)))).1, ((HT7.out.1.on h).cellsL (.tail _ (.tail _ (.head _)))).2.trans (by rw [HN.out])⟩ : w'.cell? ⟨w.heap.size, 0, none⟩ = some (.int .i64 nx) ∧ w'.cell? ⟨w.heap.size, 1, none⟩ = some (.slice A n cap))
    have RD := Lib.hid fun w' (h : Below w7.heap.size w7 w') => (by rw [← hC]; exact (((HI.out.rd.1.below HT7.out.1.2).more HT7.out.1.2.size).below h) : Rd w' w7.heap.size A C)
    have OW := Lib.hid fun (W : World) (h : w7.heap.size ≤ W.heap.size) => (World.ownsRow_lit (e := 27) (size := 3) W #[] 0 h (by decide) (by simp) : (W.alloc (.cells #[] 27)).ownsRow w7.heap.size 27 3 (.slice (some ⟨W.heap.size, 0, none⟩) 0 0) 0 [])
    simp only [hn] at c1
    clear hC hl15
    go_wp2_with fail
    apply wp_meet7 (fun w' (gE gX gV : Nat) (A4 : Option Addr) (k4 : Nat) (A9 : Option Addr) (c9 : Nat) => Below w7.heap.size w7 w' ∧ Box w' gV 24 [.int .i64 (nx + 1), .slice A9 (n + 1) c9] ∧ w'.ownsRow w7.heap.size 27 3 (.slice A9 (n + 1) c9) (n + 1) (C ++ tnc ⟨⟨nx, now, []⟩, none, 0⟩))
    · refine wp_region_heldT (fun w' => w'.cell? ⟨w.heap.size, 0, none⟩ = some (.int .i64 nx) ∧ w'.cell? ⟨w.heap.size, 1, none⟩ = some (.slice A n cap)) 15 (by kernel_rfl) (by kernel_rfl) ?_
      have B := Lib.hid (Below.refl w7.heap.size w7).drew
      have HS7 := Lib.hid (SO.out _ B.out)
      generalize w7.drew = W0 at *
      refine heldT_take (i := 0) (oi := ⟨some 55, .fieldAddr _ _ _, _, _, _, _⟩) (v := ?vg1) rfl (by kernel_rfl) (by decide) (by kernel_rfl) (by kernel_rfl) (fun _ _ _ h => h) (Or.inl ⟨by rfl, ?hyg1⟩) HS7.out ?restg1
      case hyg1 =>
        intro w hSw
        obtain ⟨hS0, hS1⟩ := hSw
        go_simp
        try with_reducible rfl
      try simp only [Act.put, List.setIfInBounds_toArray, List.set_cons_zero, List.set_cons_succ]
      refine heldT_take (i := 4) (oi := ⟨some 59, .fieldAddr _ _ _, _, _, _, _⟩) (v := ?vg2) rfl (by kernel_rfl) (by decide) (by kernel_rfl) (by kernel_rfl) (fun _ _ _ h => h) (Or.inl ⟨by rfl, ?hyg2⟩) HS7.out ?restg2
      case hyg2 =>
        intro w hSw
        obtain ⟨hS0, hS1⟩ := hSw
        go_simp
        try with_reducible rfl
      try simp only [Act.put, List.setIfInBounds_toArray, List.set_cons_zero, List.set_cons_succ]
      refine heldT_take (i := 7) (oi := ⟨some 62, .fieldAddr _ _ _, _, _, _, _⟩) (v := ?vg3) rfl (by kernel_rfl) (by decide) (by kernel_rfl) (by kernel_rfl) (fun _ _ _ h => h) (Or.inl ⟨by rfl, ?hyg3⟩) HS7.out ?restg3
      case hyg3 =>
        intro w hSw
        obtain ⟨hS0, hS1⟩ := hSw
        go_simp
        try with_reducible rfl
      try simp only [Act.put, List.setIfInBounds_toArray, List.set_cons_zero, List.set_cons_succ]
      refine heldT_take (i := 9) (oi := ⟨some 64, .move _, _, _, _, _⟩) (v := ?vg4) rfl (by kernel_rfl) (by decide) (by kernel_rfl) (by kernel_rfl) (fun _ _ _ h => h) (Or.inl ⟨by rfl, ?hyg4⟩) HS7.out ?restg4
      case hyg4 =>
        intro w hSw
        obtain ⟨hS0, hS1⟩ := hSw
        go_simp
        try with_reducible rfl
      try simp only [Act.put, List.setIfInBounds_toArray, List.set_cons_zero, List.set_cons_succ]
      refine heldT_take (i := 1) (oi := ⟨some 56, .load _ _, _, _, _, _⟩) (v := ?vg5) rfl (by kernel_rfl) (by decide) (by kernel_rfl) (by kernel_rfl) (fun _ _ _ h => h) (Or.inl ⟨by rfl, ?hyg5⟩) HS7.out ?restg5
      case hyg5 =>
        intro w hSw
        obtain ⟨hS0, hS1⟩ := hSw
        go_simp
        try with_reducible rfl
      try simp only [Act.put, List.setIfInBounds_toArray, List.set_cons_zero, List.set_cons_succ]
      refine heldT_take (i := 5) (oi := ⟨some 60, .load _ _, _, _, _, _⟩) (v := ?vg6) rfl (by kernel_rfl) (by decide) (by kernel_rfl) (by kernel_rfl) (fun _ _ _ h => h) (Or.inl ⟨by rfl, ?hyg6⟩) HS7.out ?restg6
      case hyg6 =>
        intro w hSw
        obtain ⟨hS0, hS1⟩ := hSw
        go_simp
        try with_reducible rfl
      try simp only [Act.put, List.setIfInBounds_toArray, List.set_cons_zero, List.set_cons_succ]
      refine heldT_take (i := 8) (oi := ⟨some 63, .load _ _, _, _, _, _⟩) (v := ?vg7) rfl (by kernel_rfl) (by decide) (by kernel_rfl) (by kernel_rfl) (fun _ _ _ h => h) (Or.inl ⟨by rfl, ?hyg7⟩) HS7.out ?restg7
      case hyg7 =>
        intro w hSw
        obtain ⟨hS0, hS1⟩ := hSw
        go_simp
        try with_reducible rfl
      try simp only [Act.put, List.setIfInBounds_toArray, List.set_cons_zero, List.set_cons_succ]
      refine heldT_take (i := 2) (oi := ⟨some 57, .binOp _ _ _ _ _, _, _, _, _⟩) (v := ?vg8) rfl (by kernel_rfl) (by decide) (by kernel_rfl) (by kernel_rfl) (fun _ _ _ h => h) (Or.inl ⟨by rfl, ?hyg8⟩) HS7.out ?restg8
      case hyg8 =>
        intro w hSw
        obtain ⟨hS0, hS1⟩ := hSw
        go_simp
        try with_reducible rfl
      try simp only [Act.put, List.setIfInBounds_toArray, List.set_cons_zero, List.set_cons_succ]
      refine heldT_take (i := 10) (oi := ⟨some 65, .build _ _, _, _, _, _⟩) (v := ?vg9) rfl (by kernel_rfl) (by decide) (by kernel_rfl) (by kernel_rfl) (fun _ _ _ h => h) (Or.inl ⟨by rfl, ?hyg9⟩) HS7.out ?restg9
      case hyg9 =>
        intro w hSw
        obtain ⟨hS0, hS1⟩ := hSw
        go_simp
        try with_reducible rfl
      try simp only [Act.put, List.setIfInBounds_toArray, List.set_cons_zero, List.set_cons_succ]
      refine held_three (i := 3) (j := 11) (k := 14) (oi := ⟨some 58, .buildSlice _ _ _, _, _, _, _⟩) (oj := ⟨some 66, .buildSlice _ _ _, _, _, _, _⟩) (ok := ⟨some 12, .alloc _, _, _, _, _⟩) rfl rfl rfl (by kernel_rfl) (by decide) (by decide) (by decide) (fun K hK => ?_) (fun K hK => ?_) (fun K hK => ?_)
      · go_simp
        have hbn : Below W0.heap.size W0 (W0.alloc (.cells #[] 27)) := (Below.refl _ _).alloc (Nat.le_refl _) _
        have OE := Lib.hid (OW.out W0 B.out.size)
        have EL : Hid (W0.heap.size < (W0.alloc (.cells #[] 27)).heap.size) := Lib.hid (by simp)
        replace B := Lib.hid (bthen B.out hbn)
        clear hbn
        have HS1x := Lib.hid (SO.out _ B.out)
        refine hK.out _ _ HS1x.out ?_
        clear hK K
        try simp only [Act.put, List.setIfInBounds_toArray, List.set_cons_zero, List.set_cons_succ]
        generalize W0.alloc (.cells #[] 27) = W1 at *
        generalize W0.heap.size = gE at *
        refine held_three (i := 6) (j := 11) (k := 14) (oi := ⟨some 61, .call _, _, _, _, _⟩) (oj := ⟨some 66, .buildSlice _ _ _, _, _, _, _⟩) (ok := ⟨some 12, .alloc _, _, _, _, _⟩) rfl rfl rfl (by kernel_rfl) (by decide) (by decide) (by decide) (fun K hK => ?_) (fun K hK => ?_) (fun K hK => ?_)
        · refine step_append_rd W1 rfl _ _ _ rfl w7.heap.size 27 _ 3 40 elemT (.slice (some ⟨gE, 0, none⟩) 0 0) 0 [] rfl OE.out w7.heap.size A n cap C rfl HC.out (RD.out _ B.out) HC1.out (by unfold maxLen; omega) (by omega) B.out.size ?_
          intro v2 W2 hown hg
          obtain ⟨A4, k4, rfl⟩ := own_slice hown
          simp only [Nat.zero_add, List.nil_append] at hown ⊢
          replace B := Lib.hid (B.out.grown hg B.out.size (fun k hk => (OE.out.lt k hk).1))
          have OA := Lib.hid hown
          clear hown hg OE
          try clear NE
          try clear EL
          have HS2x := Lib.hid (SO.out _ B.out)
          refine hK.out _ _ HS2x.out ?_
          clear hK K
          try simp only [Act.put, List.setIfInBounds_toArray, List.set_cons_zero, List.set_cons_succ]
          refine held_two (i := 11) (j := 14) (oi := ⟨some 66, .buildSlice _ _ _, _, _, _, _⟩) (oj := ⟨some 12, .alloc _, _, _, _, _⟩) rfl rfl (by kernel_rfl) (by decide) (by decide) (fun K hK => ?_) (fun K hK => ?_)
          · refine step_slice_one W2 rfl _ _ rfl 27 _ 3 40 elemT (by decide) (tnc ⟨⟨nx, now, []⟩, none, 0⟩) rfl rfl ?_
            have hbn : Below W2.heap.size W2 (W2.alloc (.cells (tnc ⟨⟨nx, now, []⟩, none, 0⟩).toArray 27)) := (Below.refl _ _).alloc (Nat.le_refl _) _
            replace OA := Lib.hid (own_below OA.out hbn)
            have X := Lib.hid (Box.new W2 27 (tnc ⟨⟨nx, now, []⟩, none, 0⟩))
            have XL : Hid (W2.heap.size < (W2.alloc (.cells (tnc ⟨⟨nx, now, []⟩, none, 0⟩).toArray 27)).heap.size) := Lib.hid (by simp)
            replace B := Lib.hid (bthen B.out hbn)
            clear hbn
            have HS3x := Lib.hid (SO.out _ B.out)
            refine hK.out _ _ HS3x.out ?_
            clear hK K
            try simp only [Act.put, List.setIfInBounds_toArray, List.set_cons_zero, List.set_cons_succ]
            generalize W2.alloc (.cells (tnc ⟨⟨nx, now, []⟩, none, 0⟩).toArray 27) = W3 at *
            generalize W2.heap.size = gX at *
            refine held_two (i := 12) (j := 14) (oi := ⟨some 67, .call _, _, _, _, _⟩) (oj := ⟨some 12, .alloc _, _, _, _, _⟩) rfl rfl (by kernel_rfl) (by decide) (by decide) (fun K hK => ?_) (fun K hK => ?_)
            · refine step_append_rd W3 rfl _ _ _ rfl w7.heap.size 27 _ 3 40 elemT (.slice A4 n k4) n C rfl OA.out _ (some ⟨gX, 0, none⟩) 1 1 (tnc ⟨⟨nx, now, []⟩, none, 0⟩) rfl rfl (box_rd18 X.out X.out.lt) (tnc_one _) (by unfold maxLen; omega) (by omega) B.out.size ?_
              intro v4 W4 hown hg
              obtain ⟨A9, c9, rfl⟩ := own_slice hown
              replace B := Lib.hid (B.out.grown hg B.out.size (fun k hk => (OA.out.lt k hk).1))
              replace OA := Lib.hid hown
              clear hown hg
              try clear X
              try clear XL
              have HS4x := Lib.hid (SO.out _ B.out)
              refine hK.out _ _ HS4x.out ?_
              clear hK K
              try simp only [Act.put, List.setIfInBounds_toArray, List.set_cons_zero, List.set_cons_succ]
              refine heldT_take (i := 13) (oi := ⟨some 68, .build _ _, _, _, _, _⟩) (v := ?vg10) rfl (by kernel_rfl) (by decide) (by kernel_rfl) (by kernel_rfl) (fun _ _ _ h => h) (Or.inl ⟨by rfl, ?hyg10⟩) HS4x.out ?restg10
              case hyg10 =>
                intro w hSw
                obtain ⟨hS0, hS1⟩ := hSw
                go_simp
                try with_reducible rfl
              try simp only [Act.put, List.setIfInBounds_toArray, List.set_cons_zero, List.set_cons_succ]
              refine heldT_one (i := 14) (o := ⟨some 12, .alloc _, _, _, _, _⟩) rfl (by kernel_rfl) (by decide) (fun K hK => ?_)
              refine step_var W4 rfl 24 rfl (lgc lz) zero_lg ?_
              intro W5 V hbn
              replace V := Lib.hid V
              replace OA := Lib.hid (own_below OA.out hbn)
              try replace EL := Lib.hid (Nat.lt_of_lt_of_le EL.out hbn.size)
              try replace XL := Lib.hid (Nat.lt_of_lt_of_le XL.out hbn.size)
              have HVb := Lib.hid (show w7.heap.size ≤ W4.heap.size from B.out.size)
              replace B := Lib.hid (bthen B.out hbn)
              clear hbn
              have HS5x := Lib.hid (SO.out _ B.out)
              refine hK.out _ _ HS5x.out ?_
              clear hK K
              try simp only [Act.put, List.setIfInBounds_toArray, List.set_cons_zero, List.set_cons_succ]
              generalize W4.heap.size = gV at *
              refine heldT_done (by kernel_rfl) ?_
              simp only [List.drop_succ_cons, List.drop_zero]
              go_wp2_with (first
                | ((with_reducible refine wpList_store_var _ (o := ⟨none, .store _ (.tmp 12) _, _, _, _, _⟩) rfl 24 _ _ rfl gV [.int .i64 (nx + 1), .slice A9 (n + 1) c9] (lgc lz) (lg_size2 _ _ _ _) rfl (lg_one2 _ _ _ _) rfl rfl V.out ?_); (intro w8 x8 g8; have F := r7_end B.out V.out OA.out x8 g8 HVb.out; clear x8 g8))
                | fail)
              exact ⟨gE, gX, gV, A4, k4, A9, c9, F, rfl⟩
            · refine step_var W3 rfl 24 rfl (lgc lz) zero_lg ?_
              intro W6 V hbn
              replace V := Lib.hid V
              replace OA := Lib.hid (own_below OA.out hbn)
              replace X := Lib.hid (X.out.on hbn)
              try replace EL := Lib.hid (Nat.lt_of_lt_of_le EL.out hbn.size)
              try replace XL := Lib.hid (Nat.lt_of_lt_of_le XL.out hbn.size)
              have HVb := Lib.hid (show w7.heap.size ≤ W3.heap.size from B.out.size)
              replace B := Lib.hid (bthen B.out hbn)
              clear hbn
              have HS6x := Lib.hid (SO.out _ B.out)
              refine hK.out _ _ HS6x.out ?_
              clear hK K
              try simp only [Act.put, List.setIfInBounds_toArray, List.set_cons_zero, List.set_cons_succ]
              generalize W3.heap.size = gV at *
              refine heldT_one (i := 12) (o := ⟨some 67, .call _, _, _, _, _⟩) rfl (by kernel_rfl) (by decide) (fun K hK => ?_)
              refine step_append_rd W6 rfl _ _ _ rfl w7.heap.size 27 _ 3 40 elemT (.slice A4 n k4) n C rfl OA.out _ (some ⟨gX, 0, none⟩) 1 1 (tnc ⟨⟨nx, now, []⟩, none, 0⟩) rfl rfl (box_rd18 X.out X.out.lt) (tnc_one _) (by unfold maxLen; omega) (by omega) B.out.size ?_
              intro v7 W7 hown hg
              obtain ⟨A9, c9, rfl⟩ := own_slice hown
              replace V := Lib.hid (box_swell18 V.out OA.out (by decide) hg)
              replace B := Lib.hid (B.out.grown hg B.out.size (fun k hk => (OA.out.lt k hk).1))
              replace OA := Lib.hid hown
              clear hown hg
              try clear X
              try clear XL
              have HS7x := Lib.hid (SO.out _ B.out)
              refine hK.out _ _ HS7x.out ?_
              clear hK K
              try simp only [Act.put, List.setIfInBounds_toArray, List.set_cons_zero, List.set_cons_succ]
              refine heldT_take (i := 13) (oi := ⟨some 68, .build _ _, _, _, _, _⟩) (v := ?vg11) rfl (by kernel_rfl) (by decide) (by kernel_rfl) (by kernel_rfl) (fun _ _ _ h => h) (Or.inl ⟨by rfl, ?hyg11⟩) HS7x.out ?restg11
              case hyg11 =>
                intro w hSw
                obtain ⟨hS0, hS1⟩ := hSw
                go_simp
                try with_reducible rfl
              try simp only [Act.put, List.setIfInBounds_toArray, List.set_cons_zero, List.set_cons_succ]
              refine heldT_done (by kernel_rfl) ?_
              simp only [List.drop_succ_cons, List.drop_zero]
              go_wp2_with (first
                | ((with_reducible refine wpList_store_var _ (o := ⟨none, .store _ (.tmp 12) _, _, _, _, _⟩) rfl 24 _ _ rfl gV [.int .i64 (nx + 1), .slice A9 (n + 1) c9] (lgc lz) (lg_size2 _ _ _ _) rfl (lg_one2 _ _ _ _) rfl rfl V.out ?_); (intro w8 x8 g8; have F := r7_end B.out V.out OA.out x8 g8 HVb.out; clear x8 g8))
                | fail)
              exact ⟨gE, gX, gV, A4, k4, A9, c9, F, rfl⟩
          · refine step_var W2 rfl 24 rfl (lgc lz) zero_lg ?_
            intro W8 V hbn
            replace V := Lib.hid V
            replace OA := Lib.hid (own_below OA.out hbn)
            try replace EL := Lib.hid (Nat.lt_of_lt_of_le EL.out hbn.size)
            try replace XL := Lib.hid (Nat.lt_of_lt_of_le XL.out hbn.size)
            have HVb := Lib.hid (show w7.heap.size ≤ W2.heap.size from B.out.size)
            replace B := Lib.hid (bthen B.out hbn)
            clear hbn
            have HS8x := Lib.hid (SO.out _ B.out)
            refine hK.out _ _ HS8x.out ?_
            clear hK K
            try simp only [Act.put, List.setIfInBounds_toArray, List.set_cons_zero, List.set_cons_succ]
            generalize W2.heap.size = gV at *
            refine heldT_one (i := 11) (o := ⟨some 66, .buildSlice _ _ _, _, _, _, _⟩) rfl (by kernel_rfl) (by decide) (fun K hK => ?_)
            refine step_slice_one W8 rfl _ _ rfl 27 _ 3 40 elemT (by decide) (tnc ⟨⟨nx, now, []⟩, none, 0⟩) rfl rfl ?_
            have hbn : Below W8.heap.size W8 (W8.alloc (.cells (tnc ⟨⟨nx, now, []⟩, none, 0⟩).toArray 27)) := (Below.refl _ _).alloc (Nat.le_refl _) _
            replace OA := Lib.hid (own_below OA.out hbn)
            replace V := Lib.hid (V.out.on hbn)
            have X := Lib.hid (Box.new W8 27 (tnc ⟨⟨nx, now, []⟩, none, 0⟩))
            have XL : Hid (W8.heap.size < (W8.alloc (.cells (tnc ⟨⟨nx, now, []⟩, none, 0⟩).toArray 27)).heap.size) := Lib.hid (by simp)
            replace B := Lib.hid (bthen B.out hbn)
            clear hbn
            have HS9x := Lib.hid (SO.out _ B.out)
            refine hK.out _ _ HS9x.out ?_
            clear hK K
            try simp only [Act.put, List.setIfInBounds_toArray, List.set_cons_zero, List.set_cons_succ]
            generalize W8.alloc (.cells (tnc ⟨⟨nx, now, []⟩, none, 0⟩).toArray 27) = W9 at *
            generalize W8.heap.size = gX at *
            refine heldT_one (i := 12) (o := ⟨some 67, .call _, _, _, _, _⟩) rfl (by kernel_rfl) (by decide) (fun K hK => ?_)
            refine step_append_rd W9 rfl _ _ _ rfl w7.heap.size 27 _ 3 40 elemT (.slice A4 n k4) n C rfl OA.out _ (some ⟨gX, 0, none⟩) 1 1 (tnc ⟨⟨nx, now, []⟩, none, 0⟩) rfl rfl (box_rd18 X.out X.out.lt) (tnc_one _) (by unfold maxLen; omega) (by omega) B.out.size ?_
            intro v10 W10 hown hg
            obtain ⟨A9, c9, rfl⟩ := own_slice hown
            replace V := Lib.hid (box_swell18 V.out OA.out (by decide) hg)
            replace B := Lib.hid (B.out.grown hg B.out.size (fun k hk => (OA.out.lt k hk).1))
            replace OA := Lib.hid hown
            clear hown hg
            try clear X
            try clear XL
            have HS10x := Lib.hid (SO.out _ B.out)
            refine hK.out _ _ HS10x.out ?_
            clear hK K
            try simp only [Act.put, List.setIfInBounds_toArray, List.set_cons_zero, List.set_cons_succ]
            refine heldT_take (i := 13) (oi := ⟨some 68, .build _ _, _, _, _, _⟩) (v := ?vg12) rfl (by kernel_rfl) (by decide) (by kernel_rfl) (by kernel_rfl) (fun _ _ _ h => h) (Or.inl ⟨by rfl, ?hyg12⟩) HS10x.out ?restg12
            case hyg12 =>
              intro w hSw
              obtain ⟨hS0, hS1⟩ := hSw
              go_simp
              try with_reducible rfl
            try simp only [Act.put, List.setIfInBounds_toArray, List.set_cons_zero, List.set_cons_succ]
            refine heldT_done (by kernel_rfl) ?_
            simp only [List.drop_succ_cons, List.drop_zero]
            go_wp2_with (first
              | ((with_reducible refine wpList_store_var _ (o := ⟨none, .store _ (.tmp 12) _, _, _, _, _⟩) rfl 24 _ _ rfl gV [.int .i64 (nx + 1), .slice A9 (n + 1) c9] (lgc lz) (lg_size2 _ _ _ _) rfl (lg_one2 _ _ _ _) rfl rfl V.out ?_); (intro w8 x8 g8; have F := r7_end B.out V.out OA.out x8 g8 HVb.out; clear x8 g8))
              | fail)
            exact ⟨gE, gX, gV, A4, k4, A9, c9, F, rfl⟩
        · refine step_slice_one W1 rfl _ _ rfl 27 _ 3 40 elemT (by decide) (tnc ⟨⟨nx, now, []⟩, none, 0⟩) rfl rfl ?_
          have hbn : Below W1.heap.size W1 (W1.alloc (.cells (tnc ⟨⟨nx, now, []⟩, none, 0⟩).toArray 27)) := (Below.refl _ _).alloc (Nat.le_refl _) _
          replace OE := Lib.hid (own_below OE.out hbn)
          have X := Lib.hid (Box.new W1 27 (tnc ⟨⟨nx, now, []⟩, none, 0⟩))
          have NE : Hid (W1.heap.size ≠ gE) := Lib.hid (Nat.ne_of_gt EL.out)
          replace B := Lib.hid (bthen B.out hbn)
          clear hbn
          have HS11x := Lib.hid (SO.out _ B.out)
          refine hK.out _ _ HS11x.out ?_
          clear hK K
          try simp only [Act.put, List.setIfInBounds_toArray, List.set_cons_zero, List.set_cons_succ]
          generalize W1.alloc (.cells (tnc ⟨⟨nx, now, []⟩, none, 0⟩).toArray 27) = W11 at *
          generalize W1.heap.size = gX at *
          refine held_two (i := 6) (j := 14) (oi := ⟨some 61, .call _, _, _, _, _⟩) (oj := ⟨some 12, .alloc _, _, _, _, _⟩) rfl rfl (by kernel_rfl) (by decide) (by decide) (fun K hK => ?_) (fun K hK => ?_)
          · refine step_append_rd W11 rfl _ _ _ rfl w7.heap.size 27 _ 3 40 elemT (.slice (some ⟨gE, 0, none⟩) 0 0) 0 [] rfl OE.out w7.heap.size A n cap C rfl HC.out (RD.out _ B.out) HC1.out (by unfold maxLen; omega) (by omega) B.out.size ?_
            intro v12 W12 hown hg
            obtain ⟨A4, k4, rfl⟩ := own_slice hown
            simp only [Nat.zero_add, List.nil_append] at hown ⊢
            replace X := Lib.hid (X.out.grown hg NE.out)
            replace B := Lib.hid (B.out.grown hg B.out.size (fun k hk => (OE.out.lt k hk).1))
            have OA := Lib.hid hown
            clear hown hg OE
            try clear NE
            try clear EL
            have HS12x := Lib.hid (SO.out _ B.out)
            refine hK.out _ _ HS12x.out ?_
            clear hK K
            try simp only [Act.put, List.setIfInBounds_toArray, List.set_cons_zero, List.set_cons_succ]
            refine held_two (i := 12) (j := 14) (oi := ⟨some 67, .call _, _, _, _, _⟩) (oj := ⟨some 12, .alloc _, _, _, _, _⟩) rfl rfl (by kernel_rfl) (by decide) (by decide) (fun K hK => ?_) (fun K hK => ?_)
            · refine step_append_rd W12 rfl _ _ _ rfl w7.heap.size 27 _ 3 40 elemT (.slice A4 n k4) n C rfl OA.out _ (some ⟨gX, 0, none⟩) 1 1 (tnc ⟨⟨nx, now, []⟩, none, 0⟩) rfl rfl (box_rd18 X.out X.out.lt) (tnc_one _) (by unfold maxLen; omega) (by omega) B.out.size ?_
              intro v13 W13 hown hg
              obtain ⟨A9, c9, rfl⟩ := own_slice hown
              replace B := Lib.hid (B.out.grown hg B.out.size (fun k hk => (OA.out.lt k hk).1))
              replace OA := Lib.hid hown
              clear hown hg
              try clear X
              try clear XL
              have HS13x := Lib.hid (SO.out _ B.out)
              refine hK.out _ _ HS13x.out ?_
              clear hK K
              try simp only [Act.put, List.setIfInBounds_toArray, List.set_cons_zero, List.set_cons_succ]
              refine heldT_take (i := 13) (oi := ⟨some 68, .build _ _, _, _, _, _⟩) (v := ?vg13) rfl (by kernel_rfl) (by decide) (by kernel_rfl) (by kernel_rfl) (fun _ _ _ h => h) (Or.inl ⟨by rfl, ?hyg13⟩) HS13x.out ?restg13
              case hyg13 =>
                intro w hSw
                obtain ⟨hS0, hS1⟩ := hSw
                go_simp
                try with_reducible rfl
              try simp only [Act.put, List.setIfInBounds_toArray, List.set_cons_zero, List.set_cons_succ]
              refine heldT_one (i := 14) (o := ⟨some 12, .alloc _, _, _, _, _⟩) rfl (by kernel_rfl) (by decide) (fun K hK => ?_)
              refine step_var W13 rfl 24 rfl (lgc lz) zero_lg ?_
              intro W14 V hbn
              replace V := Lib.hid V
              replace OA := Lib.hid (own_below OA.out hbn)
              try replace EL := Lib.hid (Nat.lt_of_lt_of_le EL.out hbn.size)
              try replace XL := Lib.hid (Nat.lt_of_lt_of_le XL.out hbn.size)
              have HVb := Lib.hid (show w7.heap.size ≤ W13.heap.size from B.out.size)
              replace B := Lib.hid (bthen B.out hbn)
              clear hbn
              have HS14x := Lib.hid (SO.out _ B.out)
              refine hK.out _ _ HS14x.out ?_
              clear hK K
              try simp only [Act.put, List.setIfInBounds_toArray, List.set_cons_zero, List.set_cons_succ]
              generalize W13.heap.size = gV at *
              refine heldT_done (by kernel_rfl) ?_
              simp only [List.drop_succ_cons, List.drop_zero]
              go_wp2_with (first
                | ((with_reducible refine wpList_store_var _ (o := ⟨none, .store _ (.tmp 12) _, _, _, _, _⟩) rfl 24 _ _ rfl gV [.int .i64 (nx + 1), .slice A9 (n + 1) c9] (lgc lz) (lg_size2 _ _ _ _) rfl (lg_one2 _ _ _ _) rfl rfl V.out ?_); (intro w8 x8 g8; have F := r7_end B.out V.out OA.out x8 g8 HVb.out; clear x8 g8))
                | fail)
              exact ⟨gE, gX, gV, A4, k4, A9, c9, F, rfl⟩
            · refine step_var W12 rfl 24 rfl (lgc lz) zero_lg ?_
              intro W15 V hbn
              replace V := Lib.hid V
              replace OA := Lib.hid (own_below OA.out hbn)
              replace X := Lib.hid (X.out.on hbn)
              try replace EL := Lib.hid (Nat.lt_of_lt_of_le EL.out hbn.size)
              try replace XL := Lib.hid (Nat.lt_of_lt_of_le XL.out hbn.size)
              have HVb := Lib.hid (show w7.heap.size ≤ W12.heap.size from B.out.size)
              replace B := Lib.hid (bthen B.out hbn)
              clear hbn
              have HS15x := Lib.hid (SO.out _ B.out)
              refine hK.out _ _ HS15x.out ?_
              clear hK K
              try simp only [Act.put, List.setIfInBounds_toArray, List.set_cons_zero, List.set_cons_succ]
              generalize W12.heap.size = gV at *
              refine heldT_one (i := 12) (o := ⟨some 67, .call _, _, _, _, _⟩) rfl (by kernel_rfl) (by decide) (fun K hK => ?_)
              refine step_append_rd W15 rfl _ _ _ rfl w7.heap.size 27 _ 3 40 elemT (.slice A4 n k4) n C rfl OA.out _ (some ⟨gX, 0, none⟩) 1 1 (tnc ⟨⟨nx, now, []⟩, none, 0⟩) rfl rfl (box_rd18 X.out X.out.lt) (tnc_one _) (by unfold maxLen; omega) (by omega) B.out.size ?_
              intro v16 W16 hown hg
              obtain ⟨A9, c9, rfl⟩ := own_slice hown
              replace V := Lib.hid (box_swell18 V.out OA.out (by decide) hg)
              replace B := Lib.hid (B.out.grown hg B.out.size (fun k hk => (OA.out.lt k hk).1))
              replace OA := Lib.hid hown
              clear hown hg
              try clear X
              try clear XL
              have HS16x := Lib.hid (SO.out _ B.out)
              refine hK.out _ _ HS16x.out ?_
              clear hK K
              try simp only [Act.put, List.setIfInBounds_toArray, List.set_cons_zero, List.set_cons_succ]
              refine heldT_take (i := 13) (oi := ⟨some 68, .build _ _, _, _, _, _⟩) (v := ?vg14) rfl (by kernel_rfl) (by decide) (by kernel_rfl) (by kernel_rfl) (fun _ _ _ h => h) (Or.inl ⟨by rfl, ?hyg14⟩) HS16x.out ?restg14
              case hyg14 =>
                intro w hSw
                obtain ⟨hS0, hS1⟩ := hSw
                go_simp
                try with_reducible rfl
              try simp only [Act.put, List.setIfInBounds_toArray, List.set_cons_zero, List.set_cons_succ]
              refine heldT_done (by kernel_rfl) ?_
              simp only [List.drop_succ_cons, List.drop_zero]
              go_wp2_with (first
                | ((with_reducible refine wpList_store_var _ (o := ⟨none, .store _ (.tmp 12) _, _, _, _, _⟩) rfl 24 _ _ rfl gV [.int .i64 (nx + 1), .slice A9 (n + 1) c9] (lgc lz) (lg_size2 _ _ _ _) rfl (lg_one2 _ _ _ _) rfl rfl V.out ?_); (intro w8 x8 g8; have F := r7_end B.out V.out OA.out x8 g8 HVb.out; clear x8 g8))
                | fail)
              exact ⟨gE, gX, gV, A4, k4, A9, c9, F, rfl⟩
          · refine step_var W11 rfl 24 rfl (lgc lz) zero_lg ?_
            intro W17 V hbn
            replace V := Lib.hid V
            replace OE := Lib.hid (own_below OE.out hbn)
            replace X := Lib.hid (X.out.on hbn)
            try replace EL := Lib.hid (Nat.lt_of_lt_of_le EL.out hbn.size)
            try replace XL := Lib.hid (Nat.lt_of_lt_of_le XL.out hbn.size)
            have HVb := Lib.hid (show w7.heap.size ≤ W11.heap.size from B.out.size)
            replace B := Lib.hid (bthen B.out hbn)
            clear hbn
            have HS17x := Lib.hid (SO.out _ B.out)
            refine hK.out _ _ HS17x.out ?_
            clear hK K
            try simp only [Act.put, List.setIfInBounds_toArray, List.set_cons_zero, List.set_cons_succ]
            generalize W11.heap.size = gV at *
            refine heldT_one (i := 6) (o := ⟨some 61, .call _, _, _, _, _⟩) rfl (by kernel_rfl) (by decide) (fun K hK => ?_)
            refine step_append_rd W17 rfl _ _ _ rfl w7.heap.size 27 _ 3 40 elemT (.slice (some ⟨gE, 0, none⟩) 0 0) 0 [] rfl OE.out w7.heap.size A n cap C rfl HC.out (RD.out _ B.out) HC1.out (by unfold maxLen; omega) (by omega) B.out.size ?_
            intro v18 W18 hown hg
            obtain ⟨A4, k4, rfl⟩ := own_slice hown
            simp only [Nat.zero_add, List.nil_append] at hown ⊢
            replace X := Lib.hid (X.out.grown hg NE.out)
            replace V := Lib.hid (V.out.grown hg (V.out.ne_row OE.out rfl (by decide)))
            replace B := Lib.hid (B.out.grown hg B.out.size (fun k hk => (OE.out.lt k hk).1))
            have OA := Lib.hid hown
            clear hown hg OE
            try clear NE
            try clear EL
            have HS18x := Lib.hid (SO.out _ B.out)
            refine hK.out _ _ HS18x.out ?_
            clear hK K
            try simp only [Act.put, List.setIfInBounds_toArray, List.set_cons_zero, List.set_cons_succ]
            refine heldT_one (i := 12) (o := ⟨some 67, .call _, _, _, _, _⟩) rfl (by kernel_rfl) (by decide) (fun K hK => ?_)
            refine step_append_rd W18 rfl _ _ _ rfl w7.heap.size 27 _ 3 40 elemT (.slice A4 n k4) n C rfl OA.out _ (some ⟨gX, 0, none⟩) 1 1 (tnc ⟨⟨nx, now, []⟩, none, 0⟩) rfl rfl (box_rd18 X.out X.out.lt) (tnc_one _) (by unfold maxLen; omega) (by omega) B.out.size ?_
            intro v19 W19 hown hg
            obtain ⟨A9, c9, rfl⟩ := own_slice hown
            replace V := Lib.hid (box_swell18 V.out OA.out (by decide) hg)
            replace B := Lib.hid (B.out.grown hg B.out.size (fun k hk => (OA.out.lt k hk).1))
            replace OA := Lib.hid hown
            clear hown hg
            try clear X
            try clear XL
            have HS19x := Lib.hid (SO.out _ B.out)
            refine hK.out _ _ HS19x.out ?_
            clear hK K
            try simp only [Act.put, List.setIfInBounds_toArray, List.set_cons_zero, List.set_cons_succ]
            refine heldT_take (i := 13) (oi := ⟨some 68, .build _ _, _, _, _, _⟩) (v := ?vg15) rfl (by kernel_rfl) (by decide) (by kernel_rfl) (by kernel_rfl) (fun _ _ _ h => h) (Or.inl ⟨by rfl, ?hyg15⟩) HS19x.out ?restg15
            case hyg15 =>
              intro w hSw
              obtain ⟨hS0, hS1⟩ := hSw
              go_simp
              try with_reducible rfl
            try simp only [Act.put, List.setIfInBounds_toArray, List.set_cons_zero, List.set_cons_succ]
            refine heldT_done (by kernel_rfl) ?_
            simp only [List.drop_succ_cons, List.drop_zero]
            go_wp2_with (first
              | ((with_reducible refine wpList_store_var _ (o := ⟨none, .store _ (.tmp 12) _, _, _, _, _⟩) rfl 24 _ _ rfl gV [.int .i64 (nx + 1), .slice A9 (n + 1) c9] (lgc lz) (lg_size2 _ _ _ _) rfl (lg_one2 _ _ _ _) rfl rfl V.out ?_); (intro w8 x8 g8; have F := r7_end B.out V.out OA.out x8 g8 HVb.out; clear x8 g8))
              | fail)
            exact ⟨gE, gX, gV, A4, k4, A9, c9, F, rfl⟩
        · refine step_var W1 rfl 24 rfl (lgc lz) zero_lg ?_
          intro W20 V hbn
          replace V := Lib.hid V
          replace OE := Lib.hid (own_below OE.out hbn)
          try replace EL := Lib.hid (Nat.lt_of_lt_of_le EL.out hbn.size)
          try replace XL := Lib.hid (Nat.lt_of_lt_of_le XL.out hbn.size)
          have HVb := Lib.hid (show w7.heap.size ≤ W1.heap.size from B.out.size)
          replace B := Lib.hid (bthen B.out hbn)
          clear hbn
          have HS20x := Lib.hid (SO.out _ B.out)
          refine hK.out _ _ HS20x.out ?_
          clear hK K
          try simp only [Act.put, List.setIfInBounds_toArray, List.set_cons_zero, List.set_cons_succ]
          generalize W1.heap.size = gV at *
          refine held_two (i := 6) (j := 11) (oi := ⟨some 61, .call _, _, _, _, _⟩) (oj := ⟨some 66, .buildSlice _ _ _, _, _, _, _⟩) rfl rfl (by kernel_rfl) (by decide) (by decide) (fun K hK => ?_) (fun K hK => ?_)
          · refine step_append_rd W20 rfl _ _ _ rfl w7.heap.size 27 _ 3 40 elemT (.slice (some ⟨gE, 0, none⟩) 0 0) 0 [] rfl OE.out w7.heap.size A n cap C rfl HC.out (RD.out _ B.out) HC1.out (by unfold maxLen; omega) (by omega) B.out.size ?_
            intro v21 W21 hown hg
            obtain ⟨A4, k4, rfl⟩ := own_slice hown
            simp only [Nat.zero_add, List.nil_append] at hown ⊢
            replace V := Lib.hid (V.out.grown hg (V.out.ne_row OE.out rfl (by decide)))
            replace B := Lib.hid (B.out.grown hg B.out.size (fun k hk => (OE.out.lt k hk).1))
            have OA := Lib.hid hown
            clear hown hg OE
            try clear NE
            try clear EL
            have HS21x := Lib.hid (SO.out _ B.out)
            refine hK.out _ _ HS21x.out ?_
            clear hK K
            try simp only [Act.put, List.setIfInBounds_toArray, List.set_cons_zero, List.set_cons_succ]
            refine heldT_one (i := 11) (o := ⟨some 66, .buildSlice _ _ _, _, _, _, _⟩) rfl (by kernel_rfl) (by decide) (fun K hK => ?_)
            refine step_slice_one W21 rfl _ _ rfl 27 _ 3 40 elemT (by decide) (tnc ⟨⟨nx, now, []⟩, none, 0⟩) rfl rfl ?_
            have hbn : Below W21.heap.size W21 (W21.alloc (.cells (tnc ⟨⟨nx, now, []⟩, none, 0⟩).toArray 27)) := (Below.refl _ _).alloc (Nat.le_refl _) _
            replace OA := Lib.hid (own_below OA.out hbn)
            replace V := Lib.hid (V.out.on hbn)
            have X := Lib.hid (Box.new W21 27 (tnc ⟨⟨nx, now, []⟩, none, 0⟩))
            have XL : Hid (W21.heap.size < (W21.alloc (.cells (tnc ⟨⟨nx, now, []⟩, none, 0⟩).toArray 27)).heap.size) := Lib.hid (by simp)
            replace B := Lib.hid (bthen B.out hbn)
            clear hbn
            have HS22x := Lib.hid (SO.out _ B.out)
            refine hK.out _ _ HS22x.out ?_
            clear hK K
            try simp only [Act.put, List.setIfInBounds_toArray, List.set_cons_zero, List.set_cons_succ]
            generalize W21.alloc (.cells (tnc ⟨⟨nx, now, []⟩, none, 0⟩).toArray 27) = W22 at *
            generalize W21.heap.size = gX at *
            refine heldT_one (i := 12) (o := ⟨some 67, .call _, _, _, _, _⟩) rfl (by kernel_rfl) (by decide) (fun K hK => ?_)
            refine step_append_rd W22 rfl _ _ _ rfl w7.heap.size 27 _ 3 40 elemT (.slice A4 n k4) n C rfl OA.out _ (some ⟨gX, 0, none⟩) 1 1 (tnc ⟨⟨nx, now, []⟩, none, 0⟩) rfl rfl (box_rd18 X.out X.out.lt) (tnc_one _) (by unfold maxLen; omega) (by omega) B.out.size ?_
            intro v23 W23 hown hg
            obtain ⟨A9, c9, rfl⟩ := own_slice hown
            replace V := Lib.hid (box_swell18 V.out OA.out (by decide) hg)
            replace B := Lib.hid (B.out.grown hg B.out.size (fun k hk => (OA.out.lt k hk).1))
            replace OA := Lib.hid hown
            clear hown hg
            try clear X
            try clear XL
            have HS23x := Lib.hid (SO.out _ B.out)
            refine hK.out _ _ HS23x.out ?_
            clear hK K
            try simp only [Act.put, List.setIfInBounds_toArray, List.set_cons_zero, List.set_cons_succ]
            refine heldT_take (i := 13) (oi := ⟨some 68, .build _ _, _, _, _, _⟩) (v := ?vg16) rfl (by kernel_rfl) (by decide) (by kernel_rfl) (by kernel_rfl) (fun _ _ _ h => h) (Or.inl ⟨by rfl, ?hyg16⟩) HS23x.out ?restg16
            case hyg16 =>
              intro w hSw
              obtain ⟨hS0, hS1⟩ := hSw
              go_simp
              try with_reducible rfl
            try simp only [Act.put, List.setIfInBounds_toArray, List.set_cons_zero, List.set_cons_succ]
            refine heldT_done (by kernel_rfl) ?_
            simp only [List.drop_succ_cons, List.drop_zero]
            go_wp2_with (first
              | ((with_reducible refine wpList_store_var _ (o := ⟨none, .store _ (.tmp 12) _, _, _, _, _⟩) rfl 24 _ _ rfl gV [.int .i64 (nx + 1), .slice A9 (n + 1) c9] (lgc lz) (lg_size2 _ _ _ _) rfl (lg_one2 _ _ _ _) rfl rfl V.out ?_); (intro w8 x8 g8; have F := r7_end B.out V.out OA.out x8 g8 HVb.out; clear x8 g8))
              | fail)
            exact ⟨gE, gX, gV, A4, k4, A9, c9, F, rfl⟩
          · refine step_slice_one W20 rfl _ _ rfl 27 _ 3 40 elemT (by decide) (tnc ⟨⟨nx, now, []⟩, none, 0⟩) rfl rfl ?_
            have hbn : Below W20.heap.size W20 (W20.alloc (.cells (tnc ⟨⟨nx, now, []⟩, none, 0⟩).toArray 27)) := (Below.refl _ _).alloc (Nat.le_refl _) _
            replace OE := Lib.hid (own_below OE.out hbn)
            replace V := Lib.hid (V.out.on hbn)
            have X := Lib.hid (Box.new W20 27 (tnc ⟨⟨nx, now, []⟩, none, 0⟩))
            have NE : Hid (W20.heap.size ≠ gE) := Lib.hid (Nat.ne_of_gt EL.out)
            replace B := Lib.hid (bthen B.out hbn)
            clear hbn
            have HS24x := Lib.hid (SO.out _ B.out)
            refine hK.out _ _ HS24x.out ?_
            clear hK K
            try simp only [Act.put, List.setIfInBounds_toArray, List.set_cons_zero, List.set_cons_succ]
            generalize W20.alloc (.cells (tnc ⟨⟨nx, now, []⟩, none, 0⟩).toArray 27) = W24 at *
            generalize W20.heap.size = gX at *
            refine heldT_one (i := 6) (o := ⟨some 61, .call _, _, _, _, _⟩) rfl (by kernel_rfl) (by decide) (fun K hK => ?_)
            refine step_append_rd W24 rfl _ _ _ rfl w7.heap.size 27 _ 3 40 elemT (.slice (some ⟨gE, 0, none⟩) 0 0) 0 [] rfl OE.out w7.heap.size A n cap C rfl HC.out (RD.out _ B.out) HC1.out (by unfold maxLen; omega) (by omega) B.out.size ?_
            intro v25 W25 hown hg
            obtain ⟨A4, k4, rfl⟩ := own_slice hown
            simp only [Nat.zero_add, List.nil_append] at hown ⊢
            replace X := Lib.hid (X.out.grown hg NE.out)
            replace V := Lib.hid (V.out.grown hg (V.out.ne_row OE.out rfl (by decide)))
            replace B := Lib.hid (B.out.grown hg B.out.size (fun k hk => (OE.out.lt k hk).1))
            have OA := Lib.hid hown
            clear hown hg OE
            try clear NE
            try clear EL
            have HS25x := Lib.hid (SO.out _ B.out)
            refine hK.out _ _ HS25x.out ?_
            clear hK K
            try simp only [Act.put, List.setIfInBounds_toArray, List.set_cons_zero, List.set_cons_succ]
            refine heldT_one (i := 12) (o := ⟨some 67, .call _, _, _, _, _⟩) rfl (by kernel_rfl) (by decide) (fun K hK => ?_)
            refine step_append_rd W25 rfl _ _ _ rfl w7.heap.size 27 _ 3 40 elemT (.slice A4 n k4) n C rfl OA.out _ (some ⟨gX, 0, none⟩) 1 1 (tnc ⟨⟨nx, now, []⟩, none, 0⟩) rfl rfl (box_rd18 X.out X.out.lt) (tnc_one _) (by unfold maxLen; omega) (by omega) B.out.size ?_
            intro v26 W26 hown hg
            obtain ⟨A9, c9, rfl⟩ := own_slice hown
            replace V := Lib.hid (box_swell18 V.out OA.out (by decide) hg)
            replace B := Lib.hid (B.out.grown hg B.out.size (fun k hk => (OA.out.lt k hk).1))
            replace OA := Lib.hid hown
            clear hown hg
            try clear X
            try clear XL
            have HS26x := Lib.hid (SO.out _ B.out)
            refine hK.out _ _ HS26x.out ?_
            clear hK K
            try simp only [Act.put, List.setIfInBounds_toArray, List.set_cons_zero, List.set_cons_succ]
            refine heldT_take (i := 13) (oi := ⟨some 68, .build _ _, _, _, _, _⟩) (v := ?vg17) rfl (by kernel_rfl) (by decide) (by kernel_rfl) (by kernel_rfl) (fun _ _ _ h => h) (Or.inl ⟨by rfl, ?hyg17⟩) HS26x.out ?restg17
            case hyg17 =>
              intro w hSw
              obtain ⟨hS0, hS1⟩ := hSw
              go_simp
              try with_reducible rfl
            try simp only [Act.put, List.setIfInBounds_toArray, List.set_cons_zero, List.set_cons_succ]
            refine heldT_done (by kernel_rfl) ?_
            simp only [List.drop_succ_cons, List.drop_zero]
            go_wp2_with (first
              | ((with_reducible refine wpList_store_var _ (o := ⟨none, .store _ (.tmp 12) _, _, _, _, _⟩) rfl 24 _ _ rfl gV [.int .i64 (nx + 1), .slice A9 (n + 1) c9] (lgc lz) (lg_size2 _ _ _ _) rfl (lg_one2 _ _ _ _) rfl rfl V.out ?_); (intro w8 x8 g8; have F := r7_end B.out V.out OA.out x8 g8 HVb.out; clear x8 g8))
              | fail)
            exact ⟨gE, gX, gV, A4, k4, A9, c9, F, rfl⟩
      · refine step_slice_one W0 rfl _ _ rfl 27 _ 3 40 elemT (by decide) (tnc ⟨⟨nx, now, []⟩, none, 0⟩) rfl rfl ?_
        have hbn : Below W0.heap.size W0 (W0.alloc (.cells (tnc ⟨⟨nx, now, []⟩, none, 0⟩).toArray 27)) := (Below.refl _ _).alloc (Nat.le_refl _) _
        have X := Lib.hid (Box.new W0 27 (tnc ⟨⟨nx, now, []⟩, none, 0⟩))
        have XL : Hid (W0.heap.size < (W0.alloc (.cells (tnc ⟨⟨nx, now, []⟩, none, 0⟩).toArray 27)).heap.size) := Lib.hid (by simp)
        replace B := Lib.hid (bthen B.out hbn)
        clear hbn
        have HS27x := Lib.hid (SO.out _ B.out)
        refine hK.out _ _ HS27x.out ?_
        clear hK K
        try simp only [Act.put, List.setIfInBounds_toArray, List.set_cons_zero, List.set_cons_succ]
        generalize W0.alloc (.cells (tnc ⟨⟨nx, now, []⟩, none, 0⟩).toArray 27) = W27 at *
        generalize W0.heap.size = gX at *
        refine held_two (i := 3) (j := 14) (oi := ⟨some 58, .buildSlice _ _ _, _, _, _, _⟩) (oj := ⟨some 12, .alloc _, _, _, _, _⟩) rfl rfl (by kernel_rfl) (by decide) (by decide) (fun K hK => ?_) (fun K hK => ?_)
        · go_simp
          have hbn : Below W27.heap.size W27 (W27.alloc (.cells #[] 27)) := (Below.refl _ _).alloc (Nat.le_refl _) _
          replace X := Lib.hid (X.out.on hbn)
          have OE := Lib.hid (OW.out W27 B.out.size)
          have NE : Hid (gX ≠ W27.heap.size) := Lib.hid (Nat.ne_of_lt XL.out)
          replace B := Lib.hid (bthen B.out hbn)
          clear hbn
          have HS28x := Lib.hid (SO.out _ B.out)
          refine hK.out _ _ HS28x.out ?_
          clear hK K
          try simp only [Act.put, List.setIfInBounds_toArray, List.set_cons_zero, List.set_cons_succ]
          generalize W27.alloc (.cells #[] 27) = W28 at *
          generalize W27.heap.size = gE at *
          refine held_two (i := 6) (j := 14) (oi := ⟨some 61, .call _, _, _, _, _⟩) (oj := ⟨some 12, .alloc _, _, _, _, _⟩) rfl rfl (by kernel_rfl) (by decide) (by decide) (fun K hK => ?_) (fun K hK => ?_)
          · refine step_append_rd W28 rfl _ _ _ rfl w7.heap.size 27 _ 3 40 elemT (.slice (some ⟨gE, 0, none⟩) 0 0) 0 [] rfl OE.out w7.heap.size A n cap C rfl HC.out (RD.out _ B.out) HC1.out (by unfold maxLen; omega) (by omega) B.out.size ?_
            intro v29 W29 hown hg
            obtain ⟨A4, k4, rfl⟩ := own_slice hown
            simp only [Nat.zero_add, List.nil_append] at hown ⊢
            replace X := Lib.hid (X.out.grown hg NE.out)
            replace B := Lib.hid (B.out.grown hg B.out.size (fun k hk => (OE.out.lt k hk).1))
            have OA := Lib.hid hown
            clear hown hg OE
            try clear NE
            try clear EL
            have HS29x := Lib.hid (SO.out _ B.out)
            refine hK.out _ _ HS29x.out ?_
            clear hK K
            try simp only [Act.put, List.setIfInBounds_toArray, List.set_cons_zero, List.set_cons_succ]
            refine held_two (i := 12) (j := 14) (oi := ⟨some 67, .call _, _, _, _, _⟩) (oj := ⟨some 12, .alloc _, _, _, _, _⟩) rfl rfl (by kernel_rfl) (by decide) (by decide) (fun K hK => ?_) (fun K hK => ?_)
            · refine step_append_rd W29 rfl _ _ _ rfl w7.heap.size 27 _ 3 40 elemT (.slice A4 n k4) n C rfl OA.out _ (some ⟨gX, 0, none⟩) 1 1 (tnc ⟨⟨nx, now, []⟩, none, 0⟩) rfl rfl (box_rd18 X.out X.out.lt) (tnc_one _) (by unfold maxLen; omega) (by omega) B.out.size ?_
              intro v30 W30 hown hg
              obtain ⟨A9, c9, rfl⟩ := own_slice hown
              replace B := Lib.hid (B.out.grown hg B.out.size (fun k hk => (OA.out.lt k hk).1))
              replace OA := Lib.hid hown
              clear hown hg
              try clear X
              try clear XL
              have HS30x := Lib.hid (SO.out _ B.out)
              refine hK.out _ _ HS30x.out ?_
              clear hK K
              try simp only [Act.put, List.setIfInBounds_toArray, List.set_cons_zero, List.set_cons_succ]
              refine heldT_take (i := 13) (oi := ⟨some 68, .build _ _, _, _, _, _⟩) (v := ?vg18) rfl (by kernel_rfl) (by decide) (by kernel_rfl) (by kernel_rfl) (fun _ _ _ h => h) (Or.inl ⟨by rfl, ?hyg18⟩) HS30x.out ?restg18
              case hyg18 =>
                intro w hSw
                obtain ⟨hS0, hS1⟩ := hSw
                go_simp
                try with_reducible rfl
              try simp only [Act.put, List.setIfInBounds_toArray, List.set_cons_zero, List.set_cons_succ]
              refine heldT_one (i := 14) (o := ⟨some 12, .alloc _, _, _, _, _⟩) rfl (by kernel_rfl) (by decide) (fun K hK => ?_)
              refine step_var W30 rfl 24 rfl (lgc lz) zero_lg ?_
              intro W31 V hbn
              replace V := Lib.hid V
              replace OA := Lib.hid (own_below OA.out hbn)
              try replace EL := Lib.hid (Nat.lt_of_lt_of_le EL.out hbn.size)
              try replace XL := Lib.hid (Nat.lt_of_lt_of_le XL.out hbn.size)
              have HVb := Lib.hid (show w7.heap.size ≤ W30.heap.size from B.out.size)
              replace B := Lib.hid (bthen B.out hbn)
              clear hbn
              have HS31x := Lib.hid (SO.out _ B.out)
              refine hK.out _ _ HS31x.out ?_
              clear hK K
              try simp only [Act.put, List.setIfInBounds_toArray, List.set_cons_zero, List.set_cons_succ]
              generalize W30.heap.size = gV at *
              refine heldT_done (by kernel_rfl) ?_
              simp only [List.drop_succ_cons, List.drop_zero]
              go_wp2_with (first
                | ((with_reducible refine wpList_store_var _ (o := ⟨none, .store _ (.tmp 12) _, _, _, _, _⟩) rfl 24 _ _ rfl gV [.int .i64 (nx + 1), .slice A9 (n + 1) c9] (lgc lz) (lg_size2 _ _ _ _) rfl (lg_one2 _ _ _ _) rfl rfl V.out ?_); (intro w8 x8 g8; have F := r7_end B.out V.out OA.out x8 g8 HVb.out; clear x8 g8))
                | fail)
              exact ⟨gE, gX, gV, A4, k4, A9, c9, F, rfl⟩
            · refine step_var W29 rfl 24 rfl (lgc lz) zero_lg ?_
              intro W32 V hbn
              replace V := Lib.hid V
              replace OA := Lib.hid (own_below OA.out hbn)
              replace X := Lib.hid (X.out.on hbn)
              try replace EL := Lib.hid (Nat.lt_of_lt_of_le EL.out hbn.size)
              try replace XL := Lib.hid (Nat.lt_of_lt_of_le XL.out hbn.size)
              have HVb := Lib.hid (show w7.heap.size ≤ W29.heap.size from B.out.size)
              replace B := Lib.hid (bthen B.out hbn)
              clear hbn
              have HS32x := Lib.hid (SO.out _ B.out)
              refine hK.out _ _ HS32x.out ?_
              clear hK K
              try simp only [Act.put, List.setIfInBounds_toArray, List.set_cons_zero, List.set_cons_succ]
              generalize W29.heap.size = gV at *
              refine heldT_one (i := 12) (o := ⟨some 67, .call _, _, _, _, _⟩) rfl (by kernel_rfl) (by decide) (fun K hK => ?_)
              refine step_append_rd W32 rfl _ _ _ rfl w7.heap.size 27 _ 3 40 elemT (.slice A4 n k4) n C rfl OA.out _ (some ⟨gX, 0, none⟩) 1 1 (tnc ⟨⟨nx, now, []⟩, none, 0⟩) rfl rfl (box_rd18 X.out X.out.lt) (tnc_one _) (by unfold maxLen; omega) (by omega) B.out.size ?_
              intro v33 W33 hown hg
              obtain ⟨A9, c9, rfl⟩ := own_slice hown
              replace V := Lib.hid (box_swell18 V.out OA.out (by decide) hg)
              replace B := Lib.hid (B.out.grown hg B.out.size (fun k hk => (OA.out.lt k hk).1))
              replace OA := Lib.hid hown
              clear hown hg
              try clear X
              try clear XL
              have HS33x := Lib.hid (SO.out _ B.out)
              refine hK.out _ _ HS33x.out ?_
              clear hK K
              try simp only [Act.put, List.setIfInBounds_toArray, List.set_cons_zero, List.set_cons_succ]
              refine heldT_take (i := 13) (oi := ⟨some 68, .build _ _, _, _, _, _⟩) (v := ?vg19) rfl (by kernel_rfl) (by decide) (by kernel_rfl) (by kernel_rfl) (fun _ _ _ h => h) (Or.inl ⟨by rfl, ?hyg19⟩) HS33x.out ?restg19
              case hyg19 =>
                intro w hSw
                obtain ⟨hS0, hS1⟩ := hSw
                go_simp
                try with_reducible rfl
              try simp only [Act.put, List.setIfInBounds_toArray, List.set_cons_zero, List.set_cons_succ]
              refine heldT_done (by kernel_rfl) ?_
              simp only [List.drop_succ_cons, List.drop_zero]
              go_wp2_with (first
                | ((with_reducible refine wpList_store_var _ (o := ⟨none, .store _ (.tmp 12) _, _, _, _, _⟩) rfl 24 _ _ rfl gV [.int .i64 (nx + 1), .slice A9 (n + 1) c9] (lgc lz) (lg_size2 _ _ _ _) rfl (lg_one2 _ _ _ _) rfl rfl V.out ?_); (intro w8 x8 g8; have F := r7_end B.out V.out OA.out x8 g8 HVb.out; clear x8 g8))
                | fail)
              exact ⟨gE, gX, gV, A4, k4, A9, c9, F, rfl⟩
          · refine step_var W28 rfl 24 rfl (lgc lz) zero_lg ?_
            intro W34 V hbn
            replace V := Lib.hid V
            replace OE := Lib.hid (own_below OE.out hbn)
            replace X := Lib.hid (X.out.on hbn)
            try replace EL := Lib.hid (Nat.lt_of_lt_of_le EL.out hbn.size)
            try replace XL := Lib.hid (Nat.lt_of_lt_of_le XL.out hbn.size)
            have HVb := Lib.hid (show w7.heap.size ≤ W28.heap.size from B.out.size)
            replace B := Lib.hid (bthen B.out hbn)
            clear hbn
            have HS34x := Lib.hid (SO.out _ B.out)
            refine hK.out _ _ HS34x.out ?_
            clear hK K
            try simp only [Act.put, List.setIfInBounds_toArray, List.set_cons_zero, List.set_cons_succ]
            generalize W28.heap.size = gV at *
            refine heldT_one (i := 6) (o := ⟨some 61, .call _, _, _, _, _⟩) rfl (by kernel_rfl) (by decide) (fun K hK => ?_)
            refine step_append_rd W34 rfl _ _ _ rfl w7.heap.size 27 _ 3 40 elemT (.slice (some ⟨gE, 0, none⟩) 0 0) 0 [] rfl OE.out w7.heap.size A n cap C rfl HC.out (RD.out _ B.out) HC1.out (by unfold maxLen; omega) (by omega) B.out.size ?_
            intro v35 W35 hown hg
            obtain ⟨A4, k4, rfl⟩ := own_slice hown
            simp only [Nat.zero_add, List.nil_append] at hown ⊢
            replace X := Lib.hid (X.out.grown hg NE.out)
            replace V := Lib.hid (V.out.grown hg (V.out.ne_row OE.out rfl (by decide)))
            replace B := Lib.hid (B.out.grown hg B.out.size (fun k hk => (OE.out.lt k hk).1))
            have OA := Lib.hid hown
            clear hown hg OE
            try clear NE
            try clear EL
            have HS35x := Lib.hid (SO.out _ B.out)
            refine hK.out _ _ HS35x.out ?_
            clear hK K
            try simp only [Act.put, List.setIfInBounds_toArray, List.set_cons_zero, List.set_cons_succ]
            refine heldT_one (i := 12) (o := ⟨some 67, .call _, _, _, _, _⟩) rfl (by kernel_rfl) (by decide) (fun K hK => ?_)
            refine step_append_rd W35 rfl _ _ _ rfl w7.heap.size 27 _ 3 40 elemT (.slice A4 n k4) n C rfl OA.out _ (some ⟨gX, 0, none⟩) 1 1 (tnc ⟨⟨nx, now, []⟩, none, 0⟩) rfl rfl (box_rd18 X.out X.out.lt) (tnc_one _) (by unfold maxLen; omega) (by omega) B.out.size ?_
            intro v36 W36 hown hg
            obtain ⟨A9, c9, rfl⟩ := own_slice hown
            replace V := Lib.hid (box_swell18 V.out OA.out (by decide) hg)
            replace B := Lib.hid (B.out.grown hg B.out.size (fun k hk => (OA.out.lt k hk).1))
            replace OA := Lib.hid hown
            clear hown hg
            try clear X
            try clear XL
            have HS36x := Lib.hid (SO.out _ B.out)
            refine hK.out _ _ HS36x.out ?_
            clear hK K
            try simp only [Act.put, List.setIfInBounds_toArray, List.set_cons_zero, List.set_cons_succ]
            refine heldT_take (i := 13) (oi := ⟨some 68, .build _ _, _, _, _, _⟩) (v := ?vg20) rfl (by kernel_rfl) (by decide) (by kernel_rfl) (by kernel_rfl) (fun _ _ _ h => h) (Or.inl ⟨by rfl, ?hyg20⟩) HS36x.out ?restg20
            case hyg20 =>
              intro w hSw
              obtain ⟨hS0, hS1⟩ := hSw
              go_simp
              try with_reducible rfl
            try simp only [Act.put, List.setIfInBounds_toArray, List.set_cons_zero, List.set_cons_succ]
            refine heldT_done (by kernel_rfl) ?_
            simp only [List.drop_succ_cons, List.drop_zero]
            go_wp2_with (first
              | ((with_reducible refine wpList_store_var _ (o := ⟨none, .store _ (.tmp 12) _, _, _, _, _⟩) rfl 24 _ _ rfl gV [.int .i64 (nx + 1), .slice A9 (n + 1) c9] (lgc lz) (lg_size2 _ _ _ _) rfl (lg_one2 _ _ _ _) rfl rfl V.out ?_); (intro w8 x8 g8; have F := r7_end B.out V.out OA.out x8 g8 HVb.out; clear x8 g8))
              | fail)
            exact ⟨gE, gX, gV, A4, k4, A9, c9, F, rfl⟩
        · refine step_var W27 rfl 24 rfl (lgc lz) zero_lg ?_
          intro W37 V hbn
          replace V := Lib.hid V
          replace X := Lib.hid (X.out.on hbn)
          try replace EL := Lib.hid (Nat.lt_of_lt_of_le EL.out hbn.size)
          try replace XL := Lib.hid (Nat.lt_of_lt_of_le XL.out hbn.size)
          have HVb := Lib.hid (show w7.heap.size ≤ W27.heap.size from B.out.size)
          replace B := Lib.hid (bthen B.out hbn)
          clear hbn
          have HS37x := Lib.hid (SO.out _ B.out)
          refine hK.out _ _ HS37x.out ?_
          clear hK K
          try simp only [Act.put, List.setIfInBounds_toArray, List.set_cons_zero, List.set_cons_succ]
          generalize W27.heap.size = gV at *
          refine heldT_one (i := 3) (o := ⟨some 58, .buildSlice _ _ _, _, _, _, _⟩) rfl (by kernel_rfl) (by decide) (fun K hK => ?_)
          go_simp
          have hbn : Below W37.heap.size W37 (W37.alloc (.cells #[] 27)) := (Below.refl _ _).alloc (Nat.le_refl _) _
          replace X := Lib.hid (X.out.on hbn)
          replace V := Lib.hid (V.out.on hbn)
          have OE := Lib.hid (OW.out W37 B.out.size)
          have NE : Hid (gX ≠ W37.heap.size) := Lib.hid (Nat.ne_of_lt XL.out)
          replace B := Lib.hid (bthen B.out hbn)
          clear hbn
          have HS38x := Lib.hid (SO.out _ B.out)
          refine hK.out _ _ HS38x.out ?_
          clear hK K
          try simp only [Act.put, List.setIfInBounds_toArray, List.set_cons_zero, List.set_cons_succ]
          generalize W37.alloc (.cells #[] 27) = W38 at *
          generalize W37.heap.size = gE at *
          refine heldT_one (i := 6) (o := ⟨some 61, .call _, _, _, _, _⟩) rfl (by kernel_rfl) (by decide) (fun K hK => ?_)
          refine step_append_rd W38 rfl _ _ _ rfl w7.heap.size 27 _ 3 40 elemT (.slice (some ⟨gE, 0, none⟩) 0 0) 0 [] rfl OE.out w7.heap.size A n cap C rfl HC.out (RD.out _ B.out) HC1.out (by unfold maxLen; omega) (by omega) B.out.size ?_
          intro v39 W39 hown hg
          obtain ⟨A4, k4, rfl⟩ := own_slice hown
          simp only [Nat.zero_add, List.nil_append] at hown ⊢
          replace X := Lib.hid (X.out.grown hg NE.out)
          replace V := Lib.hid (V.out.grown hg (V.out.ne_row OE.out rfl (by decide)))
          replace B := Lib.hid (B.out.grown hg B.out.size (fun k hk => (OE.out.lt k hk).1))
          have OA := Lib.hid hown
          clear hown hg OE
          try clear NE
          try clear EL
          have HS39x := Lib.hid (SO.out _ B.out)
          refine hK.out _ _ HS39x.out ?_
          clear hK K
          try simp only [Act.put, List.setIfInBounds_toArray, List.set_cons_zero, List.set_cons_succ]
          refine heldT_one (i := 12) (o := ⟨some 67, .call _, _, _, _, _⟩) rfl (by kernel_rfl) (by decide) (fun K hK => ?_)
          refine step_append_rd W39 rfl _ _ _ rfl w7.heap.size 27 _ 3 40 elemT (.slice A4 n k4) n C rfl OA.out _ (some ⟨gX, 0, none⟩) 1 1 (tnc ⟨⟨nx, now, []⟩, none, 0⟩) rfl rfl (box_rd18 X.out X.out.lt) (tnc_one _) (by unfold maxLen; omega) (by omega) B.out.size ?_
          intro v40 W40 hown hg
          obtain ⟨A9, c9, rfl⟩ := own_slice hown
          replace V := Lib.hid (box_swell18 V.out OA.out (by decide) hg)
          replace B := Lib.hid (B.out.grown hg B.out.size (fun k hk => (OA.out.lt k hk).1))
          replace OA := Lib.hid hown
          clear hown hg
          try clear X
          try clear XL
          have HS40x := Lib.hid (SO.out _ B.out)
          refine hK.out _ _ HS40x.out ?_
          clear hK K
          try simp only [Act.put, List.setIfInBounds_toArray, List.set_cons_zero, List.set_cons_succ]
          refine heldT_take (i := 13) (oi := ⟨some 68, .build _ _, _, _, _, _⟩) (v := ?vg21) rfl (by kernel_rfl) (by decide) (by kernel_rfl) (by kernel_rfl) (fun _ _ _ h => h) (Or.inl ⟨by rfl, ?hyg21⟩) HS40x.out ?restg21
          case hyg21 =>
            intro w hSw
            obtain ⟨hS0, hS1⟩ := hSw
            go_simp
            try with_reducible rfl
          try simp only [Act.put, List.setIfInBounds_toArray, List.set_cons_zero, List.set_cons_succ]
          refine heldT_done (by kernel_rfl) ?_
          simp only [List.drop_succ_cons, List.drop_zero]
          go_wp2_with (first
            | ((with_reducible refine wpList_store_var _ (o := ⟨none, .store _ (.tmp 12) _, _, _, _, _⟩) rfl 24 _ _ rfl gV [.int .i64 (nx + 1), .slice A9 (n + 1) c9] (lgc lz) (lg_size2 _ _ _ _) rfl (lg_one2 _ _ _ _) rfl rfl V.out ?_); (intro w8 x8 g8; have F := r7_end B.out V.out OA.out x8 g8 HVb.out; clear x8 g8))
            | fail)
          exact ⟨gE, gX, gV, A4, k4, A9, c9, F, rfl⟩
      · refine step_var W0 rfl 24 rfl (lgc lz) zero_lg ?_
        intro W41 V hbn
        replace V := Lib.hid V
        try replace EL := Lib.hid (Nat.lt_of_lt_of_le EL.out hbn.size)
        try replace XL := Lib.hid (Nat.lt_of_lt_of_le XL.out hbn.size)
        have HVb := Lib.hid (show w7.heap.size ≤ W0.heap.size from B.out.size)
        replace B := Lib.hid (bthen B.out hbn)
        clear hbn
        have HS41x := Lib.hid (SO.out _ B.out)
        refine hK.out _ _ HS41x.out ?_
        clear hK K
        try simp only [Act.put, List.setIfInBounds_toArray, List.set_cons_zero, List.set_cons_succ]
        generalize W0.heap.size = gV at *
        refine held_two (i := 3) (j := 11) (oi := ⟨some 58, .buildSlice _ _ _, _, _, _, _⟩) (oj := ⟨some 66, .buildSlice _ _ _, _, _, _, _⟩) rfl rfl (by kernel_rfl) (by decide) (by decide) (fun K hK => ?_) (fun K hK => ?_)
        · go_simp
          have hbn : Below W41.heap.size W41 (W41.alloc (.cells #[] 27)) := (Below.refl _ _).alloc (Nat.le_refl _) _
          replace V := Lib.hid (V.out.on hbn)
          have OE := Lib.hid (OW.out W41 B.out.size)
          have EL : Hid (W41.heap.size < (W41.alloc (.cells #[] 27)).heap.size) := Lib.hid (by simp)
          replace B := Lib.hid (bthen B.out hbn)
          clear hbn
          have HS42x := Lib.hid (SO.out _ B.out)
          refine hK.out _ _ HS42x.out ?_
          clear hK K
          try simp only [Act.put, List.setIfInBounds_toArray, List.set_cons_zero, List.set_cons_succ]
          generalize W41.alloc (.cells #[] 27) = W42 at *
          generalize W41.heap.size = gE at *
          refine held_two (i := 6) (j := 11) (oi := ⟨some 61, .call _, _, _, _, _⟩) (oj := ⟨some 66, .buildSlice _ _ _, _, _, _, _⟩) rfl rfl (by kernel_rfl) (by decide) (by decide) (fun K hK => ?_) (fun K hK => ?_)
          · refine step_append_rd W42 rfl _ _ _ rfl w7.heap.size 27 _ 3 40 elemT (.slice (some ⟨gE, 0, none⟩) 0 0) 0 [] rfl OE.out w7.heap.size A n cap C rfl HC.out (RD.out _ B.out) HC1.out (by unfold maxLen; omega) (by omega) B.out.size ?_
            intro v43 W43 hown hg
            obtain ⟨A4, k4, rfl⟩ := own_slice hown
            simp only [Nat.zero_add, List.nil_append] at hown ⊢
            replace V := Lib.hid (V.out.grown hg (V.out.ne_row OE.out rfl (by decide)))
            replace B := Lib.hid (B.out.grown hg B.out.size (fun k hk => (OE.out.lt k hk).1))
            have OA := Lib.hid hown
            clear hown hg OE
            try clear NE
            try clear EL
            have HS43x := Lib.hid (SO.out _ B.out)
            refine hK.out _ _ HS43x.out ?_
            clear hK K
            try simp only [Act.put, List.setIfInBounds_toArray, List.set_cons_zero, List.set_cons_succ]
            refine heldT_one (i := 11) (o := ⟨some 66, .buildSlice _ _ _, _, _, _, _⟩) rfl (by kernel_rfl) (by decide) (fun K hK => ?_)
            refine step_slice_one W43 rfl _ _ rfl 27 _ 3 40 elemT (by decide) (tnc ⟨⟨nx, now, []⟩, none, 0⟩) rfl rfl ?_
            have hbn : Below W43.heap.size W43 (W43.alloc (.cells (tnc ⟨⟨nx, now, []⟩, none, 0⟩).toArray 27)) := (Below.refl _ _).alloc (Nat.le_refl _) _
            replace OA := Lib.hid (own_below OA.out hbn)
            replace V := Lib.hid (V.out.on hbn)
            have X := Lib.hid (Box.new W43 27 (tnc ⟨⟨nx, now, []⟩, none, 0⟩))
            have XL : Hid (W43.heap.size < (W43.alloc (.cells (tnc ⟨⟨nx, now, []⟩, none, 0⟩).toArray 27)).heap.size) := Lib.hid (by simp)
            replace B := Lib.hid (bthen B.out hbn)
            clear hbn
            have HS44x := Lib.hid (SO.out _ B.out)
            refine hK.out _ _ HS44x.out ?_
            clear hK K
            try simp only [Act.put, List.setIfInBounds_toArray, List.set_cons_zero, List.set_cons_succ]
            generalize W43.alloc (.cells (tnc ⟨⟨nx, now, []⟩, none, 0⟩).toArray 27) = W44 at *
            generalize W43.heap.size = gX at *
            refine heldT_one (i := 12) (o := ⟨some 67, .call _, _, _, _, _⟩) rfl (by kernel_rfl) (by decide) (fun K hK => ?_)
            refine step_append_rd W44 rfl _ _ _ rfl w7.heap.size 27 _ 3 40 elemT (.slice A4 n k4) n C rfl OA.out _ (some ⟨gX, 0, none⟩) 1 1 (tnc ⟨⟨nx, now, []⟩, none, 0⟩) rfl rfl (box_rd18 X.out X.out.lt) (tnc_one _) (by unfold maxLen; omega) (by omega) B.out.size ?_
            intro v45 W45 hown hg
            obtain ⟨A9, c9, rfl⟩ := own_slice hown
            replace V := Lib.hid (box_swell18 V.out OA.out (by decide) hg)
            replace B := Lib.hid (B.out.grown hg B.out.size (fun k hk => (OA.out.lt k hk).1))
            replace OA := Lib.hid hown
            clear hown hg
            try clear X
            try clear XL
            have HS45x := Lib.hid (SO.out _ B.out)
            refine hK.out _ _ HS45x.out ?_
            clear hK K
            try simp only [Act.put, List.setIfInBounds_toArray, List.set_cons_zero, List.set_cons_succ]
            refine heldT_take (i := 13) (oi := ⟨some 68, .build _ _, _, _, _, _⟩) (v := ?vg22) rfl (by kernel_rfl) (by decide) (by kernel_rfl) (by kernel_rfl) (fun _ _ _ h => h) (Or.inl ⟨by rfl, ?hyg22⟩) HS45x.out ?restg22
            case hyg22 =>
              intro w hSw
              obtain ⟨hS0, hS1⟩ := hSw
              go_simp
              try with_reducible rfl
            try simp only [Act.put, List.setIfInBounds_toArray, List.set_cons_zero, List.set_cons_succ]
            refine heldT_done (by kernel_rfl) ?_
            simp only [List.drop_succ_cons, List.drop_zero]
            go_wp2_with (first
              | ((with_reducible refine wpList_store_var _ (o := ⟨none, .store _ (.tmp 12) _, _, _, _, _⟩) rfl 24 _ _ rfl gV [.int .i64 (nx + 1), .slice A9 (n + 1) c9] (lgc lz) (lg_size2 _ _ _ _) rfl (lg_one2 _ _ _ _) rfl rfl V.out ?_); (intro w8 x8 g8; have F := r7_end B.out V.out OA.out x8 g8 HVb.out; clear x8 g8))
              | fail)
            exact ⟨gE, gX, gV, A4, k4, A9, c9, F, rfl⟩
          · refine step_slice_one W42 rfl _ _ rfl 27 _ 3 40 elemT (by decide) (tnc ⟨⟨nx, now, []⟩, none, 0⟩) rfl rfl ?_
            have hbn : Below W42.heap.size W42 (W42.alloc (.cells (tnc ⟨⟨nx, now, []⟩, none, 0⟩).toArray 27)) := (Below.refl _ _).alloc (Nat.le_refl _) _
            replace OE := Lib.hid (own_below OE.out hbn)
            replace V := Lib.hid (V.out.on hbn)
            have X := Lib.hid (Box.new W42 27 (tnc ⟨⟨nx, now, []⟩, none, 0⟩))
            have NE : Hid (W42.heap.size ≠ gE) := Lib.hid (Nat.ne_of_gt EL.out)
            replace B := Lib.hid (bthen B.out hbn)
            clear hbn
            have HS46x := Lib.hid (SO.out _ B.out)
            refine hK.out _ _ HS46x.out ?_
            clear hK K
            try simp only [Act.put, List.setIfInBounds_toArray, List.set_cons_zero, List.set_cons_succ]
            generalize W42.alloc (.cells (tnc ⟨⟨nx, now, []⟩, none, 0⟩).toArray 27) = W46 at *
            generalize W42.heap.size = gX at *
            refine heldT_one (i := 6) (o := ⟨some 61, .call _, _, _, _, _⟩) rfl (by kernel_rfl) (by decide) (fun K hK => ?_)
            refine step_append_rd W46 rfl _ _ _ rfl w7.heap.size 27 _ 3 40 elemT (.slice (some ⟨gE, 0, none⟩) 0 0) 0 [] rfl OE.out w7.heap.size A n cap C rfl HC.out (RD.out _ B.out) HC1.out (by unfold maxLen; omega) (by omega) B.out.size ?_
            intro v47 W47 hown hg
            obtain ⟨A4, k4, rfl⟩ := own_slice hown
            simp only [Nat.zero_add, List.nil_append] at hown ⊢
            replace X := Lib.hid (X.out.grown hg NE.out)
            replace V := Lib.hid (V.out.grown hg (V.out.ne_row OE.out rfl (by decide)))
            replace B := Lib.hid (B.out.grown hg B.out.size (fun k hk => (OE.out.lt k hk).1))
            have OA := Lib.hid hown
            clear hown hg OE
            try clear NE
            try clear EL
            have HS47x := Lib.hid (SO.out _ B.out)
            refine hK.out _ _ HS47x.out ?_
            clear hK K
            try simp only [Act.put, List.setIfInBounds_toArray, List.set_cons_zero, List.set_cons_succ]
            refine heldT_one (i := 12) (o := ⟨some 67, .call _, _, _, _, _⟩) rfl (by kernel_rfl) (by decide) (fun K hK => ?_)
            refine step_append_rd W47 rfl _ _ _ rfl w7.heap.size 27 _ 3 40 elemT (.slice A4 n k4) n C rfl OA.out _ (some ⟨gX, 0, none⟩) 1 1 (tnc ⟨⟨nx, now, []⟩, none, 0⟩) rfl rfl (box_rd18 X.out X.out.lt) (tnc_one _) (by unfold maxLen; omega) (by omega) B.out.size ?_
            intro v48 W48 hown hg
            obtain ⟨A9, c9, rfl⟩ := own_slice hown
            replace V := Lib.hid (box_swell18 V.out OA.out (by decide) hg)
            replace B := Lib.hid (B.out.grown hg B.out.size (fun k hk => (OA.out.lt k hk).1))
            replace OA := Lib.hid hown
            clear hown hg
            try clear X
            try clear XL
            have HS48x := Lib.hid (SO.out _ B.out)
            refine hK.out _ _ HS48x.out ?_
            clear hK K
            try simp only [Act.put, List.setIfInBounds_toArray, List.set_cons_zero, List.set_cons_succ]
            refine heldT_take (i := 13) (oi := ⟨some 68, .build _ _, _, _, _, _⟩) (v := ?vg23) rfl (by kernel_rfl) (by decide) (by kernel_rfl) (by kernel_rfl) (fun _ _ _ h => h) (Or.inl ⟨by rfl, ?hyg23⟩) HS48x.out ?restg23
            case hyg23 =>
              intro w hSw
              obtain ⟨hS0, hS1⟩ := hSw
              go_simp
              try with_reducible rfl
            try simp only [Act.put, List.setIfInBounds_toArray, List.set_cons_zero, List.set_cons_succ]
            refine heldT_done (by kernel_rfl) ?_
            simp only [List.drop_succ_cons, List.drop_zero]
            go_wp2_with (first
              | ((with_reducible refine wpList_store_var _ (o := ⟨none, .store _ (.tmp 12) _, _, _, _, _⟩) rfl 24 _ _ rfl gV [.int .i64 (nx + 1), .slice A9 (n + 1) c9] (lgc lz) (lg_size2 _ _ _ _) rfl (lg_one2 _ _ _ _) rfl rfl V.out ?_); (intro w8 x8 g8; have F := r7_end B.out V.out OA.out x8 g8 HVb.out; clear x8 g8))
              | fail)
            exact ⟨gE, gX, gV, A4, k4, A9, c9, F, rfl⟩
        · refine step_slice_one W41 rfl _ _ rfl 27 _ 3 40 elemT (by decide) (tnc ⟨⟨nx, now, []⟩, none, 0⟩) rfl rfl ?_
          have hbn : Below W41.heap.size W41 (W41.alloc (.cells (tnc ⟨⟨nx, now, []⟩, none, 0⟩).toArray 27)) := (Below.refl _ _).alloc (Nat.le_refl _) _
          replace V := Lib.hid (V.out.on hbn)
          have X := Lib.hid (Box.new W41 27 (tnc ⟨⟨nx, now, []⟩, none, 0⟩))
          have XL : Hid (W41.heap.size < (W41.alloc (.cells (tnc ⟨⟨nx, now, []⟩, none, 0⟩).toArray 27)).heap.size) := Lib.hid (by simp)
          replace B := Lib.hid (bthen B.out hbn)
          clear hbn
          have HS49x := Lib.hid (SO.out _ B.out)
          refine hK.out _ _ HS49x.out ?_
          clear hK K
          try simp only [Act.put, List.setIfInBounds_toArray, List.set_cons_zero, List.set_cons_succ]
          generalize W41.alloc (.cells (tnc ⟨⟨nx, now, []⟩, none, 0⟩).toArray 27) = W49 at *
          generalize W41.heap.size = gX at *
          refine heldT_one (i := 3) (o := ⟨some 58, .buildSlice _ _ _, _, _, _, _⟩) rfl (by kernel_rfl) (by decide) (fun K hK => ?_)
          go_simp
          have hbn : Below W49.heap.size W49 (W49.alloc (.cells #[] 27)) := (Below.refl _ _).alloc (Nat.le_refl _) _
          replace X := Lib.hid (X.out.on hbn)
          replace V := Lib.hid (V.out.on hbn)
          have OE := Lib.hid (OW.out W49 B.out.size)
          have NE : Hid (gX ≠ W49.heap.size) := Lib.hid (Nat.ne_of_lt XL.out)
          replace B := Lib.hid (bthen B.out hbn)
          clear hbn
          have HS50x := Lib.hid (SO.out _ B.out)
          refine hK.out _ _ HS50x.out ?_
          clear hK K
          try simp only [Act.put, List.setIfInBounds_toArray, List.set_cons_zero, List.set_cons_succ]
          generalize W49.alloc (.cells #[] 27) = W50 at *
          generalize W49.heap.size = gE at *
          refine heldT_one (i := 6) (o := ⟨some 61, .call _, _, _, _, _⟩) rfl (by kernel_rfl) (by decide) (fun K hK => ?_)
          refine step_append_rd W50 rfl _ _ _ rfl w7.heap.size 27 _ 3 40 elemT (.slice (some ⟨gE, 0, none⟩) 0 0) 0 [] rfl OE.out w7.heap.size A n cap C rfl HC.out (RD.out _ B.out) HC1.out (by unfold maxLen; omega) (by omega) B.out.size ?_
          intro v51 W51 hown hg
          obtain ⟨A4, k4, rfl⟩ := own_slice hown
          simp only [Nat.zero_add, List.nil_append] at hown ⊢
          replace X := Lib.hid (X.out.grown hg NE.out)
          replace V := Lib.hid (V.out.grown hg (V.out.ne_row OE.out rfl (by decide)))
          replace B := Lib.hid (B.out.grown hg B.out.size (fun k hk => (OE.out.lt k hk).1))
          have OA := Lib.hid hown
          clear hown hg OE
          try clear NE
          try clear EL
          have HS51x := Lib.hid (SO.out _ B.out)
          refine hK.out _ _ HS51x.out ?_
          clear hK K
          try simp only [Act.put, List.setIfInBounds_toArray, List.set_cons_zero, List.set_cons_succ]
          refine heldT_one (i := 12) (o := ⟨some 67, .call _, _, _, _, _⟩) rfl (by kernel_rfl) (by decide) (fun K hK => ?_)
          refine step_append_rd W51 rfl _ _ _ rfl w7.heap.size 27 _ 3 40 elemT (.slice A4 n k4) n C rfl OA.out _ (some ⟨gX, 0, none⟩) 1 1 (tnc ⟨⟨nx, now, []⟩, none, 0⟩) rfl rfl (box_rd18 X.out X.out.lt) (tnc_one _) (by unfold maxLen; omega) (by omega) B.out.size ?_
          intro v52 W52 hown hg
          obtain ⟨A9, c9, rfl⟩ := own_slice hown
          replace V := Lib.hid (box_swell18 V.out OA.out (by decide) hg)
          replace B := Lib.hid (B.out.grown hg B.out.size (fun k hk => (OA.out.lt k hk).1))
          replace OA := Lib.hid hown
          clear hown hg
          try clear X
          try clear XL
          have HS52x := Lib.hid (SO.out _ B.out)
          refine hK.out _ _ HS52x.out ?_
          clear hK K
          try simp only [Act.put, List.setIfInBounds_toArray, List.set_cons_zero, List.set_cons_succ]
          refine heldT_take (i := 13) (oi := ⟨some 68, .build _ _, _, _, _, _⟩) (v := ?vg24) rfl (by kernel_rfl) (by decide) (by kernel_rfl) (by kernel_rfl) (fun _ _ _ h => h) (Or.inl ⟨by rfl, ?hyg24⟩) HS52x.out ?restg24
          case hyg24 =>
            intro w hSw
            obtain ⟨hS0, hS1⟩ := hSw
            go_simp
            try with_reducible rfl
          try simp only [Act.put, List.setIfInBounds_toArray, List.set_cons_zero, List.set_cons_succ]
          refine heldT_done (by kernel_rfl) ?_
          simp only [List.drop_succ_cons, List.drop_zero]
          go_wp2_with (first
            | ((with_reducible refine wpList_store_var _ (o := ⟨none, .store _ (.tmp 12) _, _, _, _, _⟩) rfl 24 _ _ rfl gV [.int .i64 (nx + 1), .slice A9 (n + 1) c9] (lgc lz) (lg_size2 _ _ _ _) rfl (lg_one2 _ _ _ _) rfl rfl V.out ?_); (intro w8 x8 g8; have F := r7_end B.out V.out OA.out x8 g8 HVb.out; clear x8 g8))
            | fail)
          exact ⟨gE, gX, gV, A4, k4, A9, c9, F, rfl⟩
    rintro w8 gE gX gV A4 k4 A9 c9 F
    have hC := HCe.out
    subst hC
    have HW := Lib.hid (want_in (c9 := c9) (now := now) HI.out (bthen HT7.out.1.2 F.1) HF.out.1 (Rd.own F.2.2))
    have HT8 := Lib.hid (And.intro ((HT7.out.1.on F.1).cons F.2.1) (HT7.out.2.on F.1))
    clear F OW SO c0 c1 hn hwi hnx0 hnx1 hn16 HT7
    try clear RD
    obtain ⟨m0, m1⟩ := HT8.out.1.cellsL (.tail _ (.head _))
    obtain ⟨c0, c1⟩ := HT8.out.1.cellsL (.tail _ (.tail _ (.tail _ (.head _))))
    have v0 : w8.cell? ⟨gV, 0, none⟩ = some (.int .i64 (nx + 1)) := HT8.out.1.head.cell 0
    have v1 : w8.cell? ⟨gV, 1, none⟩ = some (.slice A9 (n + 1) c9) := HT8.out.1.head.cell 1
    have hb0 : (nx != nx) = false := by simp
    have hC : Calls Try.prog 9 #[.agg #[.int .i64 (nx + 1), .slice Am lm.length cm], .agg #[.int .i64 (nx + 1), .slice A9 (n + 1) c9]] w8 fun e w' => e = .returned (.bool true) ∧ Below w8.heap.size w8 w' := by
      have h := rsameall_yes (x := ⟨nx + 1, lm, Am, cm⟩) (y := ⟨nx + 1, l ++ [⟨⟨nx, now, []⟩, none, 0⟩], A9, c9⟩) HT8.out.2 HW.out ⟨rfl, by show lm.map Tv.t = (l ++ [_]).map Tv.t; rw [HM.out, List.map_append]; rfl⟩
      rw [lval2 (show (l ++ [(⟨⟨nx, now, []⟩, none, 0⟩ : Tv)]).length = n + 1 by rw [List.length_append, HN.out]; rfl)] at h
      exact h
    have HCx := Lib.hid hC
    clear hC
    go_wp2_with fail
    refine HCx.out.mono ?_
    rintro e w9 ⟨rfl, hb⟩
    have HTq := Lib.hid (HT8.out.1.on hb).tail.tail
    clear hb c0 c1 m0 m1 v0 v1 HCx HT8 HW hb0
    obtain ⟨od, hod⟩ : ∃ od, oldT now (l.map Tv.t) = od := ⟨_, rfl⟩
    have Hod := Lib.hid hod
    clear hod
    cases hg : gett id (l.map Tv.t) with
    | none =>
      have HG := Lib.hid hg
      have HBf : Hid (l.find? (fun y => y.t.id == id) = none) := Lib.hid (by
        have h := find_tv (id := id) HRi.out
        rw [hg] at h
        exact Option.map_eq_none_iff.1 h)
      obtain ⟨bv, hbv⟩ : ∃ bv, bv = tz := ⟨_, rfl⟩
      have HBz := Lib.hid hbv.symm
      have HBv : Hid (bv.t = tn0 ∧ ∀ w', Below w.heap.size w w' → Rd w' w'.heap.size bv.A (tws bv.t.ws)) := Lib.hid (by subst hbv; exact ⟨rfl, fun w' _ => Rd.empty⟩)
      have HK : Hid ((if (gett id (l.map Tv.t)).isSome then (0 : Int) else 9) = 9) := Lib.hid (by rw [hg]; rfl)
      clear hg hbv
      obtain ⟨c0, c1⟩ := HTq.out.cellsL (.tail _ (.head _))
      go_wp2_with fail
      refine (get_no (x := ⟨nx, l, A, cap⟩) (HI.out.on HTq.out.2) HRi.out HG.out).mono ?_
      rintro e w10 ⟨Aa, ca, rfl, hb⟩
      have HTa := Lib.hid (And.intro (HTq.out.on hb) (And.intro tin_tn0 (show Rd w10 w10.heap.size Aa (tws tn0.ws) from Rd.empty)))
      obtain ⟨ta, hta⟩ : ∃ ta, ta = tn0 := ⟨_, rfl⟩
      rw [← hta] at HTa HBv ⊢
      clear hb c0 c1 hta
      go_wp2_with (first
        | ((with_reducible refine wpList_alloc_box _ (o := ⟨some 13, .alloc _, _, _, _, _⟩) rfl _ rfl (tnc tz) zero_tn ?_); intro w110 x110 B110 s110)
        | ((with_reducible refine wpList_store_var _ (o := ⟨none, .store _ (.tmp 13) _, _, _, _, _⟩) rfl 27 _ _ rfl w10.heap.size (tnc ⟨ta, Aa, ca⟩) (tnc tz) (tn_size _) rfl (tnc_one _) rfl rfl x110 ?_); go_loud (intro w11 x11 g11; have K11 := below_stored B110 g11 B110.size (Nat.le_refl _); have HTb := Lib.hid (And.intro (HTa.out.1.made B110 g11 x11) (And.intro HTa.out.2.1 ((HTa.out.2.2.below K11).more K11.size))); obtain ⟨c0, c1⟩ := HTb.out.1.cellsL (.tail _ (.tail _ (.head _))); clear x110 B110 s110 g11 x11 K11; generalize w10.heap.size = b13 at *))
        | fail)
      clear HTa
      refine (rget_no (x := ⟨nx, l, A, cap⟩) (HI.out.on HTb.out.1.2) HBf.out).mono ?_
      rintro e w12 ⟨rfl, hb⟩
      rw [HBz.out]
      have HTc := Lib.hid (And.intro (HTb.out.1.on hb) (And.intro HTb.out.2.1 ((HTb.out.2.2.below hb).more hb.size)))
      clear hb c0 c1 HTb
      go_wp2_with (first
        | ((with_reducible refine wpList_alloc_box _ (o := ⟨some 15, .alloc _, _, _, _, _⟩) rfl _ rfl (tnc tz) zero_tn ?_); intro w130 x130 B130 s130)
        | ((with_reducible refine wpList_store_var _ (o := ⟨none, .store _ (.tmp 15) _, _, _, _, _⟩) rfl 27 _ _ rfl w12.heap.size (tnc bv) (tnc tz) (tn_size _) rfl (tnc_one _) rfl rfl x130 ?_); go_loud (intro w13 x13 g13; have K13 := below_stored B130 g13 B130.size (Nat.le_refl _); have HTd := Lib.hid (And.intro (HTc.out.1.made B130 g13 x13) (And.intro HTc.out.2.1 ((HTc.out.2.2.below K13).more K13.size))); obtain ⟨c0, c1⟩ := HTd.out.1.cellsL (.tail _ (.tail _ (.tail _ (.head _)))); clear x130 B130 s130 g13 x13 K13; generalize w12.heap.size = b15 at *))
        | fail)
      clear HTc
      refine (drop_is (x := ⟨nx, l, A, cap⟩) (k := 9) (HI.out.on HTd.out.1.2) HRi.out HK.out).mono ?_
      rintro e w14 ⟨⟨ny, ld, Ad, cd⟩, rfl, hny, hmap, hown, hb⟩
      obtain rfl : nx = ny := Eq.symm hny
      have hmap : ld.map Tv.t = dropT id (l.map Tv.t) := hmap
      have HTe := Lib.hid (And.intro (HTd.out.1.on hb) (And.intro HTd.out.2.1 (And.intro ((HTd.out.2.2.below hb).more hb.size) (hown.inS hmap (Nat.le_trans (len_drop id HRi.out) (by have := HI.out.few; rw [List.length_map]; exact this)) (fun t ht => by obtain ⟨z, hz, rfl⟩ := List.mem_map.1 (mem_drop HRi.out ht); exact HI.out.each z hz)))))
      have HDm := Lib.hid hmap
      clear hmap hown hb c0 c1 HTd
      go_wp2_with (first
        | ((with_reducible refine wpList_alloc_box _ (o := ⟨some 17, .alloc _, _, _, _, _⟩) rfl _ rfl (lgc lz) zero_lg ?_); intro w150 x150 B150 s150)
        | ((with_reducible refine wpList_store_var _ (o := ⟨none, .store _ (.tmp 17) _, _, _, _, _⟩) rfl 24 _ _ rfl w14.heap.size (lgc ⟨nx, ld, Ad, cd⟩) (lgc lz) (lg_size _) rfl (lgc_one _) rfl rfl x150 ?_); go_loud (intro w15 x15 g15; have K15 := below_stored B150 g15 B150.size (Nat.le_refl _); have HTf := Lib.hid (And.intro (HTe.out.1.made B150 g15 x15) (And.intro HTe.out.2.1 (And.intro ((HTe.out.2.2.1.below K15).more K15.size) (HTe.out.2.2.2.on K15)))); clear x150 B150 s150 g15 x15 K15; generalize w14.heap.size = b17 at *))
        | fail)
      clear HTe
      have HSO := Lib.hid fun w' (h : TBx w w' [(b17, 24, lgc ⟨nx, ld, Ad, cd⟩), (b15, 27, tnc bv), (b13, 27, tnc ⟨ta, Aa, ca⟩), (b7, 27, tnc ⟨t, At, ct⟩), (w.heap.size, 24, lgc ⟨nx, l, A, cap⟩)]) => (⟨h.cellsL (.tail _ (.tail _ (.tail _ (.tail _ (.head _))))), h.cellsT (.tail _ (.tail _ (.tail _ (.head _)))), h.cellsT (.tail _ (.tail _ (.head _))), h.cellsT (.tail _ (.head _)), h.cellsL (.head _)⟩ : (w'.cell? ⟨w.heap.size, 0, none⟩ = some (.int .i64 nx) ∧ w'.cell? ⟨w.heap.size, 1, none⟩ = some (.slice A l.length cap)) ∧ (w'.cell? ⟨b7, 0, none⟩ = some (.int .i64 t.id) ∧ w'.cell? ⟨b7, 1, none⟩ = some (.int .i64 t.bg) ∧ w'.cell? ⟨b7, 2, none⟩ = some (.slice At t.ws.length ct)) ∧ (w'.cell? ⟨b13, 0, none⟩ = some (.int .i64 ta.id) ∧ w'.cell? ⟨b13, 1, none⟩ = some (.int .i64 ta.bg) ∧ w'.cell? ⟨b13, 2, none⟩ = some (.slice Aa ta.ws.length ca)) ∧ (w'.cell? ⟨b15, 0, none⟩ = some (.int .i64 bv.t.id) ∧ w'.cell? ⟨b15, 1, none⟩ = some (.int .i64 bv.t.bg) ∧ w'.cell? ⟨b15, 2, none⟩ = some (.slice bv.A bv.t.ws.length bv.cap)) ∧ (w'.cell? ⟨b17, 0, none⟩ = some (.int .i64 nx) ∧ w'.cell? ⟨b17, 1, none⟩ = some (.slice Ad ld.length cd)))
      have HSm : Hid (∀ w', Below w15.heap.size w15 w' → Calls Try.prog 13 #[.agg #[.int .i64 ta.id, .int .i64 ta.bg, .slice Aa ta.ws.length ca], .agg #[.int .i64 bv.t.id, .int .i64 bv.t.bg, .slice bv.A bv.t.ws.length bv.cap]] w' fun e w'' => e = .returned (.bool true) ∧ Below w'.heap.size w' w'') := Lib.hid fun w' hb => by
        exact rsame_yes (x := ⟨ta, Aa, ca⟩) (y := bv) HTf.out.2.1 (by rw [HBv.out.1]; exact HTf.out.2.1) ((HTf.out.2.2.1.below hb).more hb.size) (HBv.out.2 _ (bthen HTf.out.1.2 hb)) HBv.out.1.symm
      have HRd : Hid (∀ w', Below w15.heap.size w15 w' → Calls Try.prog 14 #[.agg #[.int .i64 nx, .slice A l.length cap], .int .i64 id] w' fun e w'' => ∃ lz Az cz, e = .returned (.agg #[.int .i64 nx, .slice Az lz.length cz]) ∧ lz.map Tv.t = dropT id (l.map Tv.t) ∧ LIn w'' ⟨nx, lz, Az, cz⟩ ∧ Below w'.heap.size w' w'') := Lib.hid fun w' hb => by
        refine (rdrop_any ⟨nx, l, A, cap⟩ id w' (HI.out.on (bthen HTf.out.1.2 hb))).mono ?_
        rintro e w'' ⟨⟨ny, lz, Az, cz⟩, rfl, hny, hl, hin, hb2⟩
        obtain rfl : nx = ny := Eq.symm hny
        exact ⟨lz, Az, cz, rfl, by rw [show lz = l.flatMap (withS id tz true) from hl]; exact with_drop HRi.out, hin, hb2⟩
      have HA1 : Hid (∀ w' lz Az cz, lz.map Tv.t = dropT id (l.map Tv.t) → LIn w' ⟨nx, lz, Az, cz⟩ → Below w15.heap.size w15 w' → Calls Try.prog 9 #[.agg #[.int .i64 nx, .slice Ad ld.length cd], .agg #[.int .i64 nx, .slice Az lz.length cz]] w' fun e w'' => e = .returned (.bool true) ∧ Below w'.heap.size w' w'') := Lib.hid fun w' lz Az cz hm hi hb => by
        exact rsameall_yes (x := ⟨nx, ld, Ad, cd⟩) (y := ⟨nx, lz, Az, cz⟩) (HTf.out.2.2.2.on hb) hi ⟨rfl, by show ld.map Tv.t = lz.map Tv.t; rw [HDm.out, hm]⟩
      have HSt : Hid (∀ w', Below w15.heap.size w15 w' → Calls Try.prog 15 #[.agg #[.int .i64 nx, .slice A l.length cap], .agg #[.int .i64 t.id, .int .i64 t.bg, .slice At t.ws.length ct]] w' fun e w'' => ∃ ls As cs, e = .returned (.agg #[.int .i64 nx, .slice As ls.length cs]) ∧ ls.map Tv.t = setT t (l.map Tv.t) ∧ LIn w'' ⟨nx, ls, As, cs⟩ ∧ Below w'.heap.size w' w'') := Lib.hid fun w' hb => by
        refine (set_any ⟨nx, l, A, cap⟩ ⟨t, At, ct⟩ w' (HI.out.on (bthen HTf.out.1.2 hb)) HRi.out HTi.out ((HX.out.2.rd.below (bthen HTf.out.1.2 hb)).more (bthen HTf.out.1.2 hb).size)).mono ?_
        rintro e w'' ⟨⟨ny, ls, As, cs⟩, rfl, hny, hl, hown, hb2⟩
        obtain rfl : nx = ny := Eq.symm hny
        exact ⟨ls, As, cs, rfl, hl, hown.inS hl (by rw [len_set _ HRi.out, List.length_map]; exact HI.out.few) (fun q hq => by
          rcases mem_set HRi.out hq with rfl | hq
          · exact HTi.out
          · obtain ⟨z, hz, rfl⟩ := List.mem_map.1 hq; exact HI.out.each z hz), hb2⟩
      have HRs : Hid (∀ w', Below w15.heap.size w15 w' → Calls Try.prog 16 #[.agg #[.int .i64 nx, .slice A l.length cap], .agg #[.int .i64 t.id, .int .i64 t.bg, .slice At t.ws.length ct]] w' fun e w'' => ∃ ls As cs, e = .returned (.agg #[.int .i64 nx, .slice As ls.length cs]) ∧ ls.map Tv.t = setT t (l.map Tv.t) ∧ LIn w'' ⟨nx, ls, As, cs⟩ ∧ Below w'.heap.size w' w'') := Lib.hid fun w' hb => by
        refine (rset_any ⟨nx, l, A, cap⟩ ⟨t, At, ct⟩ w' (HI.out.on (bthen HTf.out.1.2 hb)) HTi.out ((HX.out.2.rd.below (bthen HTf.out.1.2 hb)).more (bthen HTf.out.1.2 hb).size)).mono ?_
        rintro e w'' ⟨⟨ny, ls, As, cs⟩, rfl, hny, hl, hin, hb2⟩
        obtain rfl : nx = ny := Eq.symm hny
        exact ⟨ls, As, cs, rfl, by rw [show ls = l.flatMap (withS t.id ⟨t, At, ct⟩ false) from hl]; exact with_set ⟨t, At, ct⟩ HRi.out, hin, hb2⟩
      have HA2 : Hid (∀ w' ls As cs lz Az cz, ls.map Tv.t = setT t (l.map Tv.t) → lz.map Tv.t = setT t (l.map Tv.t) → LIn w' ⟨nx, ls, As, cs⟩ → LIn w' ⟨nx, lz, Az, cz⟩ → Calls Try.prog 9 #[.agg #[.int .i64 nx, .slice As ls.length cs], .agg #[.int .i64 nx, .slice Az lz.length cz]] w' fun e w'' => e = .returned (.bool true) ∧ Below w'.heap.size w' w'') := Lib.hid fun w' ls As cs lz Az cz hm1 hm2 hi1 hi2 => by
        exact rsameall_yes (x := ⟨nx, ls, As, cs⟩) (y := ⟨nx, lz, Az, cz⟩) hi1 hi2 ⟨rfl, by show ls.map Tv.t = lz.map Tv.t; rw [hm1, hm2]⟩
      have HO1 : Hid (∀ w', Below w15.heap.size w15 w' → Calls Try.prog 17 #[.agg #[.int .i64 nx, .slice A l.length cap], .int .i64 now] w' fun e w'' => e = .returned (.int .i64 od) ∧ Below w'.heap.size w' w'') := Lib.hid fun w' hb => by
        rw [← Hod.out]
        exact oldest_any ⟨nx, l, A, cap⟩ now w' (HI.out.on (bthen HTf.out.1.2 hb))
      have HO2 : Hid (∀ w', Below w15.heap.size w15 w' → Calls Try.prog 18 #[.agg #[.int .i64 nx, .slice A l.length cap], .int .i64 now] w' fun e w'' => e = .returned (.int .i64 od) ∧ Below w'.heap.size w' w'') := Lib.hid fun w' hb => by
        rw [← Hod.out]
        exact roldest_any18 ⟨nx, l, A, cap⟩ now w' (HI.out.on (bthen HTf.out.1.2 hb))
      have HS0 := Lib.hid (HSO.out _ HTf.out.1.drew)
      go_wp2_with fail
      refine wp_region_heldT (fun w' => (w'.cell? ⟨w.heap.size, 0, none⟩ = some (.int .i64 nx) ∧ w'.cell? ⟨w.heap.size, 1, none⟩ = some (.slice A l.length cap)) ∧ (w'.cell? ⟨b7, 0, none⟩ = some (.int .i64 t.id) ∧ w'.cell? ⟨b7, 1, none⟩ = some (.int .i64 t.bg) ∧ w'.cell? ⟨b7, 2, none⟩ = some (.slice At t.ws.length ct)) ∧ (w'.cell? ⟨b13, 0, none⟩ = some (.int .i64 ta.id) ∧ w'.cell? ⟨b13, 1, none⟩ = some (.int .i64 ta.bg) ∧ w'.cell? ⟨b13, 2, none⟩ = some (.slice Aa ta.ws.length ca)) ∧ (w'.cell? ⟨b15, 0, none⟩ = some (.int .i64 bv.t.id) ∧ w'.cell? ⟨b15, 1, none⟩ = some (.int .i64 bv.t.bg) ∧ w'.cell? ⟨b15, 2, none⟩ = some (.slice bv.A bv.t.ws.length bv.cap)) ∧ (w'.cell? ⟨b17, 0, none⟩ = some (.int .i64 nx) ∧ w'.cell? ⟨b17, 1, none⟩ = some (.slice Ad ld.length cd))) 46 (by kernel_rfl) (by kernel_rfl) ?_
      refine heldT_take (i := 0) (oi := ⟨some 101, .load _ _, _, _, _, _⟩) (v := ?vnb1) rfl (by kernel_rfl) (by decide) (by kernel_rfl) (by kernel_rfl) (fun _ _ _ h => h) (Or.inl ⟨by rfl, ?hynb1⟩) HS0.out ?restnb1
      case hynb1 =>
        intro w hSw
        obtain ⟨⟨ha0, ha1⟩, ⟨hb0, hb1, hb2⟩, ⟨hc0, hc1, hc2⟩, ⟨hd0, hd1, hd2⟩, ⟨he0, he1⟩⟩ := hSw
        go_simp
        try with_reducible rfl
      try simp only [Act.put, List.setIfInBounds_toArray, List.set_cons_zero, List.set_cons_succ]
      refine heldT_take (i := 1) (oi := ⟨some 102, .load _ _, _, _, _, _⟩) (v := ?vnb2) rfl (by kernel_rfl) (by decide) (by kernel_rfl) (by kernel_rfl) (fun _ _ _ h => h) (Or.inl ⟨by rfl, ?hynb2⟩) HS0.out ?restnb2
      case hynb2 =>
        intro w hSw
        obtain ⟨⟨ha0, ha1⟩, ⟨hb0, hb1, hb2⟩, ⟨hc0, hc1, hc2⟩, ⟨hd0, hd1, hd2⟩, ⟨he0, he1⟩⟩ := hSw
        go_simp
        try with_reducible rfl
      try simp only [Act.put, List.setIfInBounds_toArray, List.set_cons_zero, List.set_cons_succ]
      refine heldT_one (i := 2) (o := ⟨some 103, .call _, _, _, _, _⟩) rfl (by kernel_rfl) (by decide) (fun K hK => ?_)
      go_simp
      refine (HSm.out _ (Below.refl _ _).drew).mono ?_
      rintro e wa ⟨rfl, hb1⟩
      have HBa := Lib.hid (bthen (Below.refl _ _).drew hb1)
      have HSa := Lib.hid (HSO.out _ (HTf.out.1.on HBa.out))
      clear hb1
      go_wp2_with fail
      refine hK.out _ _ (HSa.out) ?_
      clear hK K
      try simp only [Act.put, List.setIfInBounds_toArray, List.set_cons_zero, List.set_cons_succ]
      refine heldT_take (i := 3) (oi := ⟨some 104, .move _, _, _, _, _⟩) (v := ?vnb3) rfl (by kernel_rfl) (by decide) (by kernel_rfl) (by kernel_rfl) (fun _ _ _ h => h) (Or.inl ⟨by rfl, ?hynb3⟩) HSa.out ?restnb3
      case hynb3 =>
        intro w hSw
        obtain ⟨⟨ha0, ha1⟩, ⟨hb0, hb1, hb2⟩, ⟨hc0, hc1, hc2⟩, ⟨hd0, hd1, hd2⟩, ⟨he0, he1⟩⟩ := hSw
        go_simp
        try with_reducible rfl
      try simp only [Act.put, List.setIfInBounds_toArray, List.set_cons_zero, List.set_cons_succ]
      refine heldT_take (i := 4) (oi := ⟨some 105, .move _, _, _, _, _⟩) (v := ?vnb4) rfl (by kernel_rfl) (by decide) (by kernel_rfl) (by kernel_rfl) (fun _ _ _ h => h) (Or.inl ⟨by rfl, ?hynb4⟩) HSa.out ?restnb4
      case hynb4 =>
        intro w hSw
        obtain ⟨⟨ha0, ha1⟩, ⟨hb0, hb1, hb2⟩, ⟨hc0, hc1, hc2⟩, ⟨hd0, hd1, hd2⟩, ⟨he0, he1⟩⟩ := hSw
        go_simp
        try with_reducible rfl
      try simp only [Act.put, List.setIfInBounds_toArray, List.set_cons_zero, List.set_cons_succ]
      refine heldT_take (i := 6) (oi := ⟨some 107, .move _, _, _, _, _⟩) (v := ?vnb5) rfl (by kernel_rfl) (by decide) (by kernel_rfl) (by kernel_rfl) (fun _ _ _ h => h) (Or.inl ⟨by rfl, ?hynb5⟩) HSa.out ?restnb5
      case hynb5 =>
        intro w hSw
        obtain ⟨⟨ha0, ha1⟩, ⟨hb0, hb1, hb2⟩, ⟨hc0, hc1, hc2⟩, ⟨hd0, hd1, hd2⟩, ⟨he0, he1⟩⟩ := hSw
        go_simp
        try with_reducible rfl
      try simp only [Act.put, List.setIfInBounds_toArray, List.set_cons_zero, List.set_cons_succ]
      refine heldT_take (i := 5) (oi := ⟨some 106, .binOp _ _ _ _ _, _, _, _, _⟩) (v := ?vnb6) rfl (by kernel_rfl) (by decide) (by kernel_rfl) (by kernel_rfl) (fun _ _ _ h => h) (Or.inl ⟨by rfl, ?hynb6⟩) HSa.out ?restnb6
      case hynb6 =>
        intro w hSw
        obtain ⟨⟨ha0, ha1⟩, ⟨hb0, hb1, hb2⟩, ⟨hc0, hc1, hc2⟩, ⟨hd0, hd1, hd2⟩, ⟨he0, he1⟩⟩ := hSw
        go_simp
        try with_reducible rfl
      try simp only [Act.put, List.setIfInBounds_toArray, List.set_cons_zero, List.set_cons_succ]
      refine heldT_take (i := 7) (oi := ⟨some 108, .binOp _ _ _ _ _, _, _, _, _⟩) (v := ?vnb7) rfl (by kernel_rfl) (by decide) (by kernel_rfl) (by kernel_rfl) (fun _ _ _ h => h) (Or.inl ⟨by rfl, ?hynb7⟩) HSa.out ?restnb7
      case hynb7 =>
        intro w hSw
        obtain ⟨⟨ha0, ha1⟩, ⟨hb0, hb1, hb2⟩, ⟨hc0, hc1, hc2⟩, ⟨hd0, hd1, hd2⟩, ⟨he0, he1⟩⟩ := hSw
        go_simp
        try with_reducible rfl
      try simp only [Act.put, List.setIfInBounds_toArray, List.set_cons_zero, List.set_cons_succ]
      refine heldT_take (i := 8) (oi := ⟨some 109, .pick _ _ _, _, _, _, _⟩) (v := ?vnb8) rfl (by kernel_rfl) (by decide) (by kernel_rfl) (by kernel_rfl) (fun _ _ _ h => h) (Or.inl ⟨by rfl, ?hynb8⟩) HSa.out ?restnb8
      case hynb8 =>
        intro w hSw
        obtain ⟨⟨ha0, ha1⟩, ⟨hb0, hb1, hb2⟩, ⟨hc0, hc1, hc2⟩, ⟨hd0, hd1, hd2⟩, ⟨he0, he1⟩⟩ := hSw
        go_simp
        try with_reducible rfl
      try simp only [Act.put, List.setIfInBounds_toArray, List.set_cons_zero, List.set_cons_succ]
      refine heldT_take (i := 9) (oi := ⟨some 110, .move _, _, _, _, _⟩) (v := ?vnb9) rfl (by kernel_rfl) (by decide) (by kernel_rfl) (by kernel_rfl) (fun _ _ _ h => h) (Or.inl ⟨by rfl, ?hynb9⟩) HSa.out ?restnb9
      case hynb9 =>
        intro w hSw
        obtain ⟨⟨ha0, ha1⟩, ⟨hb0, hb1, hb2⟩, ⟨hc0, hc1, hc2⟩, ⟨hd0, hd1, hd2⟩, ⟨he0, he1⟩⟩ := hSw
        go_simp
        try with_reducible rfl
      try simp only [Act.put, List.setIfInBounds_toArray, List.set_cons_zero, List.set_cons_succ]
      refine heldT_take (i := 10) (oi := ⟨some 111, .move _, _, _, _, _⟩) (v := ?vnb10) rfl (by kernel_rfl) (by decide) (by kernel_rfl) (by kernel_rfl) (fun _ _ _ h => h) (Or.inl ⟨by rfl, ?hynb10⟩) HSa.out ?restnb10
      case hynb10 =>
        intro w hSw
        obtain ⟨⟨ha0, ha1⟩, ⟨hb0, hb1, hb2⟩, ⟨hc0, hc1, hc2⟩, ⟨hd0, hd1, hd2⟩, ⟨he0, he1⟩⟩ := hSw
        go_simp
        try with_reducible rfl
      try simp only [Act.put, List.setIfInBounds_toArray, List.set_cons_zero, List.set_cons_succ]
      refine heldT_take (i := 11) (oi := ⟨some 112, .move _, _, _, _, _⟩) (v := ?vnb11) rfl (by kernel_rfl) (by decide) (by kernel_rfl) (by kernel_rfl) (fun _ _ _ h => h) (Or.inl ⟨by rfl, ?hynb11⟩) HSa.out ?restnb11
      case hynb11 =>
        intro w hSw
        obtain ⟨⟨ha0, ha1⟩, ⟨hb0, hb1, hb2⟩, ⟨hc0, hc1, hc2⟩, ⟨hd0, hd1, hd2⟩, ⟨he0, he1⟩⟩ := hSw
        go_simp
        try with_reducible rfl
      try simp only [Act.put, List.setIfInBounds_toArray, List.set_cons_zero, List.set_cons_succ]
      refine heldT_take (i := 12) (oi := ⟨some 113, .move _, _, _, _, _⟩) (v := ?vnb12) rfl (by kernel_rfl) (by decide) (by kernel_rfl) (by kernel_rfl) (fun _ _ _ h => h) (Or.inl ⟨by rfl, ?hynb12⟩) HSa.out ?restnb12
      case hynb12 =>
        intro w hSw
        obtain ⟨⟨ha0, ha1⟩, ⟨hb0, hb1, hb2⟩, ⟨hc0, hc1, hc2⟩, ⟨hd0, hd1, hd2⟩, ⟨he0, he1⟩⟩ := hSw
        go_simp
        try with_reducible rfl
      try simp only [Act.put, List.setIfInBounds_toArray, List.set_cons_zero, List.set_cons_succ]
      refine heldT_take (i := 13) (oi := ⟨some 114, .binOp _ _ _ _ _, _, _, _, _⟩) (v := ?vnb13) rfl (by kernel_rfl) (by decide) (by kernel_rfl) (by kernel_rfl) (fun _ _ _ h => h) (Or.inl ⟨by rfl, ?hynb13⟩) HSa.out ?restnb13
      case hynb13 =>
        intro w hSw
        obtain ⟨⟨ha0, ha1⟩, ⟨hb0, hb1, hb2⟩, ⟨hc0, hc1, hc2⟩, ⟨hd0, hd1, hd2⟩, ⟨he0, he1⟩⟩ := hSw
        go_simp
        try with_reducible rfl
      try simp only [Act.put, List.setIfInBounds_toArray, List.set_cons_zero, List.set_cons_succ]
      refine heldT_take (i := 14) (oi := ⟨some 115, .pick _ _ _, _, _, _, _⟩) (v := ?vnb14) rfl (by kernel_rfl) (by decide) (by kernel_rfl) (by kernel_rfl) (fun _ _ _ h => h) (Or.inl ⟨by rfl, ?hynb14⟩) HSa.out ?restnb14
      case hynb14 =>
        intro w hSw
        obtain ⟨⟨ha0, ha1⟩, ⟨hb0, hb1, hb2⟩, ⟨hc0, hc1, hc2⟩, ⟨hd0, hd1, hd2⟩, ⟨he0, he1⟩⟩ := hSw
        go_simp
        try with_reducible rfl
      try simp only [Act.put, List.setIfInBounds_toArray, List.set_cons_zero, List.set_cons_succ]
      refine heldT_take (i := 15) (oi := ⟨some 116, .pick _ _ _, _, _, _, _⟩) (v := ?vnb15) rfl (by kernel_rfl) (by decide) (by kernel_rfl) (by kernel_rfl) (fun _ _ _ h => h) (Or.inl ⟨by rfl, ?hynb15⟩) HSa.out ?restnb15
      case hynb15 =>
        intro w hSw
        obtain ⟨⟨ha0, ha1⟩, ⟨hb0, hb1, hb2⟩, ⟨hc0, hc1, hc2⟩, ⟨hd0, hd1, hd2⟩, ⟨he0, he1⟩⟩ := hSw
        go_simp
        try with_reducible rfl
      try simp only [Act.put, List.setIfInBounds_toArray, List.set_cons_zero, List.set_cons_succ]
      refine heldT_take (i := 16) (oi := ⟨some 117, .move _, _, _, _, _⟩) (v := ?vnb16) rfl (by kernel_rfl) (by decide) (by kernel_rfl) (by kernel_rfl) (fun _ _ _ h => h) (Or.inl ⟨by rfl, ?hynb16⟩) HSa.out ?restnb16
      case hynb16 =>
        intro w hSw
        obtain ⟨⟨ha0, ha1⟩, ⟨hb0, hb1, hb2⟩, ⟨hc0, hc1, hc2⟩, ⟨hd0, hd1, hd2⟩, ⟨he0, he1⟩⟩ := hSw
        go_simp
        try with_reducible rfl
      try simp only [Act.put, List.setIfInBounds_toArray, List.set_cons_zero, List.set_cons_succ]
      refine heldT_take (i := 17) (oi := ⟨some 118, .move _, _, _, _, _⟩) (v := ?vnb17) rfl (by kernel_rfl) (by decide) (by kernel_rfl) (by kernel_rfl) (fun _ _ _ h => h) (Or.inl ⟨by rfl, ?hynb17⟩) HSa.out ?restnb17
      case hynb17 =>
        intro w hSw
        obtain ⟨⟨ha0, ha1⟩, ⟨hb0, hb1, hb2⟩, ⟨hc0, hc1, hc2⟩, ⟨hd0, hd1, hd2⟩, ⟨he0, he1⟩⟩ := hSw
        go_simp
        try with_reducible rfl
      try simp only [Act.put, List.setIfInBounds_toArray, List.set_cons_zero, List.set_cons_succ]
      refine heldT_take (i := 18) (oi := ⟨some 119, .move _, _, _, _, _⟩) (v := ?vnb18) rfl (by kernel_rfl) (by decide) (by kernel_rfl) (by kernel_rfl) (fun _ _ _ h => h) (Or.inl ⟨by rfl, ?hynb18⟩) HSa.out ?restnb18
      case hynb18 =>
        intro w hSw
        obtain ⟨⟨ha0, ha1⟩, ⟨hb0, hb1, hb2⟩, ⟨hc0, hc1, hc2⟩, ⟨hd0, hd1, hd2⟩, ⟨he0, he1⟩⟩ := hSw
        go_simp
        try with_reducible rfl
      try simp only [Act.put, List.setIfInBounds_toArray, List.set_cons_zero, List.set_cons_succ]
      refine heldT_take (i := 19) (oi := ⟨some 120, .binOp _ _ _ _ _, _, _, _, _⟩) (v := ?vnb19) rfl (by kernel_rfl) (by decide) (by kernel_rfl) (by kernel_rfl) (fun _ _ _ h => h) (Or.inl ⟨by rfl, ?hynb19⟩) HSa.out ?restnb19
      case hynb19 =>
        intro w hSw
        obtain ⟨⟨ha0, ha1⟩, ⟨hb0, hb1, hb2⟩, ⟨hc0, hc1, hc2⟩, ⟨hd0, hd1, hd2⟩, ⟨he0, he1⟩⟩ := hSw
        go_simp
        try with_reducible rfl
      try simp only [Act.put, List.setIfInBounds_toArray, List.set_cons_zero, List.set_cons_succ]
      refine heldT_take (i := 20) (oi := ⟨some 121, .pick _ _ _, _, _, _, _⟩) (v := ?vnb20) rfl (by kernel_rfl) (by decide) (by kernel_rfl) (by kernel_rfl) (fun _ _ _ h => h) (Or.inl ⟨by rfl, ?hynb20⟩) HSa.out ?restnb20
      case hynb20 =>
        intro w hSw
        obtain ⟨⟨ha0, ha1⟩, ⟨hb0, hb1, hb2⟩, ⟨hc0, hc1, hc2⟩, ⟨hd0, hd1, hd2⟩, ⟨he0, he1⟩⟩ := hSw
        go_simp
        try with_reducible rfl
      try simp only [Act.put, List.setIfInBounds_toArray, List.set_cons_zero, List.set_cons_succ]
      refine heldT_take (i := 21) (oi := ⟨some 122, .move _, _, _, _, _⟩) (v := ?vnb21) rfl (by kernel_rfl) (by decide) (by kernel_rfl) (by kernel_rfl) (fun _ _ _ h => h) (Or.inl ⟨by rfl, ?hynb21⟩) HSa.out ?restnb21
      case hynb21 =>
        intro w hSw
        obtain ⟨⟨ha0, ha1⟩, ⟨hb0, hb1, hb2⟩, ⟨hc0, hc1, hc2⟩, ⟨hd0, hd1, hd2⟩, ⟨he0, he1⟩⟩ := hSw
        go_simp
        try with_reducible rfl
      try simp only [Act.put, List.setIfInBounds_toArray, List.set_cons_zero, List.set_cons_succ]
      refine heldT_take (i := 22) (oi := ⟨some 123, .load _ _, _, _, _, _⟩) (v := ?vnb22) rfl (by kernel_rfl) (by decide) (by kernel_rfl) (by kernel_rfl) (fun _ _ _ h => h) (Or.inl ⟨by rfl, ?hynb22⟩) HSa.out ?restnb22
      case hynb22 =>
        intro w hSw
        obtain ⟨⟨ha0, ha1⟩, ⟨hb0, hb1, hb2⟩, ⟨hc0, hc1, hc2⟩, ⟨hd0, hd1, hd2⟩, ⟨he0, he1⟩⟩ := hSw
        go_simp
        try with_reducible rfl
      try simp only [Act.put, List.setIfInBounds_toArray, List.set_cons_zero, List.set_cons_succ]
      refine heldT_take (i := 23) (oi := ⟨some 124, .load _ _, _, _, _, _⟩) (v := ?vnb23) rfl (by kernel_rfl) (by decide) (by kernel_rfl) (by kernel_rfl) (fun _ _ _ h => h) (Or.inl ⟨by rfl, ?hynb23⟩) HSa.out ?restnb23
      case hynb23 =>
        intro w hSw
        obtain ⟨⟨ha0, ha1⟩, ⟨hb0, hb1, hb2⟩, ⟨hc0, hc1, hc2⟩, ⟨hd0, hd1, hd2⟩, ⟨he0, he1⟩⟩ := hSw
        go_simp
        try with_reducible rfl
      try simp only [Act.put, List.setIfInBounds_toArray, List.set_cons_zero, List.set_cons_succ]
      refine heldT_take (i := 24) (oi := ⟨some 125, .move _, _, _, _, _⟩) (v := ?vnb24) rfl (by kernel_rfl) (by decide) (by kernel_rfl) (by kernel_rfl) (fun _ _ _ h => h) (Or.inl ⟨by rfl, ?hynb24⟩) HSa.out ?restnb24
      case hynb24 =>
        intro w hSw
        obtain ⟨⟨ha0, ha1⟩, ⟨hb0, hb1, hb2⟩, ⟨hc0, hc1, hc2⟩, ⟨hd0, hd1, hd2⟩, ⟨he0, he1⟩⟩ := hSw
        go_simp
        try with_reducible rfl
      try simp only [Act.put, List.setIfInBounds_toArray, List.set_cons_zero, List.set_cons_succ]
      refine heldT_one (i := 25) (o := ⟨some 126, .call _, _, _, _, _⟩) rfl (by kernel_rfl) (by decide) (fun K hK => ?_)
      go_simp
      refine (HRd.out _ HBa.out).mono ?_
      rintro e wb ⟨lq, Aq, cq, rfl, hm1, hi1, hb1⟩
      have HBb := Lib.hid (bthen HBa.out hb1)
      have HSb := Lib.hid (HSO.out _ (HTf.out.1.on HBb.out))
      have HQ := Lib.hid (And.intro hm1 hi1)
      clear hm1 hi1 hb1
      go_wp2_with fail
      refine hK.out _ _ (HSb.out) ?_
      clear hK K
      try simp only [Act.put, List.setIfInBounds_toArray, List.set_cons_zero, List.set_cons_succ]
      refine heldT_one (i := 26) (o := ⟨some 127, .call _, _, _, _, _⟩) rfl (by kernel_rfl) (by decide) (fun K hK => ?_)
      go_simp
      refine (HA1.out _ lq Aq cq HQ.out.1 HQ.out.2 HBb.out).mono ?_
      rintro e wc ⟨rfl, hb1⟩
      have HBc := Lib.hid (bthen HBb.out hb1)
      have HSc := Lib.hid (HSO.out _ (HTf.out.1.on HBc.out))
      clear hb1
      go_wp2_with fail
      refine hK.out _ _ (HSc.out) ?_
      clear hK K
      try simp only [Act.put, List.setIfInBounds_toArray, List.set_cons_zero, List.set_cons_succ]
      refine heldT_take (i := 27) (oi := ⟨some 128, .pick _ _ _, _, _, _, _⟩) (v := ?vnb25) rfl (by kernel_rfl) (by decide) (by kernel_rfl) (by kernel_rfl) (fun _ _ _ h => h) (Or.inl ⟨by rfl, ?hynb25⟩) HSc.out ?restnb25
      case hynb25 =>
        intro w hSw
        obtain ⟨⟨ha0, ha1⟩, ⟨hb0, hb1, hb2⟩, ⟨hc0, hc1, hc2⟩, ⟨hd0, hd1, hd2⟩, ⟨he0, he1⟩⟩ := hSw
        go_simp
        try with_reducible rfl
      try simp only [Act.put, List.setIfInBounds_toArray, List.set_cons_zero, List.set_cons_succ]
      refine heldT_take (i := 28) (oi := ⟨some 129, .move _, _, _, _, _⟩) (v := ?vnb26) rfl (by kernel_rfl) (by decide) (by kernel_rfl) (by kernel_rfl) (fun _ _ _ h => h) (Or.inl ⟨by rfl, ?hynb26⟩) HSc.out ?restnb26
      case hynb26 =>
        intro w hSw
        obtain ⟨⟨ha0, ha1⟩, ⟨hb0, hb1, hb2⟩, ⟨hc0, hc1, hc2⟩, ⟨hd0, hd1, hd2⟩, ⟨he0, he1⟩⟩ := hSw
        go_simp
        try with_reducible rfl
      try simp only [Act.put, List.setIfInBounds_toArray, List.set_cons_zero, List.set_cons_succ]
      refine heldT_take (i := 29) (oi := ⟨some 130, .load _ _, _, _, _, _⟩) (v := ?vnb27) rfl (by kernel_rfl) (by decide) (by kernel_rfl) (by kernel_rfl) (fun _ _ _ h => h) (Or.inl ⟨by rfl, ?hynb27⟩) HSc.out ?restnb27
      case hynb27 =>
        intro w hSw
        obtain ⟨⟨ha0, ha1⟩, ⟨hb0, hb1, hb2⟩, ⟨hc0, hc1, hc2⟩, ⟨hd0, hd1, hd2⟩, ⟨he0, he1⟩⟩ := hSw
        go_simp
        try with_reducible rfl
      try simp only [Act.put, List.setIfInBounds_toArray, List.set_cons_zero, List.set_cons_succ]
      refine heldT_take (i := 30) (oi := ⟨some 131, .load _ _, _, _, _, _⟩) (v := ?vnb28) rfl (by kernel_rfl) (by decide) (by kernel_rfl) (by kernel_rfl) (fun _ _ _ h => h) (Or.inl ⟨by rfl, ?hynb28⟩) HSc.out ?restnb28
      case hynb28 =>
        intro w hSw
        obtain ⟨⟨ha0, ha1⟩, ⟨hb0, hb1, hb2⟩, ⟨hc0, hc1, hc2⟩, ⟨hd0, hd1, hd2⟩, ⟨he0, he1⟩⟩ := hSw
        go_simp
        try with_reducible rfl
      try simp only [Act.put, List.setIfInBounds_toArray, List.set_cons_zero, List.set_cons_succ]
      refine heldT_take (i := 32) (oi := ⟨some 133, .load _ _, _, _, _, _⟩) (v := ?vnb29) rfl (by kernel_rfl) (by decide) (by kernel_rfl) (by kernel_rfl) (fun _ _ _ h => h) (Or.inl ⟨by rfl, ?hynb29⟩) HSc.out ?restnb29
      case hynb29 =>
        intro w hSw
        obtain ⟨⟨ha0, ha1⟩, ⟨hb0, hb1, hb2⟩, ⟨hc0, hc1, hc2⟩, ⟨hd0, hd1, hd2⟩, ⟨he0, he1⟩⟩ := hSw
        go_simp
        try with_reducible rfl
      try simp only [Act.put, List.setIfInBounds_toArray, List.set_cons_zero, List.set_cons_succ]
      refine heldT_take (i := 33) (oi := ⟨some 134, .load _ _, _, _, _, _⟩) (v := ?vnb30) rfl (by kernel_rfl) (by decide) (by kernel_rfl) (by kernel_rfl) (fun _ _ _ h => h) (Or.inl ⟨by rfl, ?hynb30⟩) HSc.out ?restnb30
      case hynb30 =>
        intro w hSw
        obtain ⟨⟨ha0, ha1⟩, ⟨hb0, hb1, hb2⟩, ⟨hc0, hc1, hc2⟩, ⟨hd0, hd1, hd2⟩, ⟨he0, he1⟩⟩ := hSw
        go_simp
        try with_reducible rfl
      try simp only [Act.put, List.setIfInBounds_toArray, List.set_cons_zero, List.set_cons_succ]
      refine heldT_one (i := 31) (o := ⟨some 132, .call _, _, _, _, _⟩) rfl (by kernel_rfl) (by decide) (fun K hK => ?_)
      go_simp
      refine (HSt.out _ HBc.out).mono ?_
      rintro e wd ⟨ls, As, cs, rfl, hm1, hi1, hb1⟩
      have HBd := Lib.hid (bthen HBc.out hb1)
      have HSd := Lib.hid (HSO.out _ (HTf.out.1.on HBd.out))
      have HP := Lib.hid (And.intro hm1 hi1)
      clear hm1 hi1 hb1
      go_wp2_with fail
      refine hK.out _ _ (HSd.out) ?_
      clear hK K
      try simp only [Act.put, List.setIfInBounds_toArray, List.set_cons_zero, List.set_cons_succ]
      refine heldT_one (i := 34) (o := ⟨some 135, .call _, _, _, _, _⟩) rfl (by kernel_rfl) (by decide) (fun K hK => ?_)
      go_simp
      refine (HRs.out _ HBd.out).mono ?_
      rintro e we ⟨lp, Ap, cp, rfl, hm1, hi1, hb1⟩
      have HBe := Lib.hid (bthen HBd.out hb1)
      have HSe := Lib.hid (HSO.out _ (HTf.out.1.on HBe.out))
      have HP2 := Lib.hid (And.intro (HP.out.2.on hb1) (And.intro hm1 hi1))
      clear hm1 hi1 hb1
      go_wp2_with fail
      refine hK.out _ _ (HSe.out) ?_
      clear hK K
      try simp only [Act.put, List.setIfInBounds_toArray, List.set_cons_zero, List.set_cons_succ]
      refine heldT_one (i := 35) (o := ⟨some 136, .call _, _, _, _, _⟩) rfl (by kernel_rfl) (by decide) (fun K hK => ?_)
      go_simp
      refine (HA2.out _ ls As cs lp Ap cp HP.out.1 HP2.out.2.1 HP2.out.1 HP2.out.2.2).mono ?_
      rintro e wf ⟨rfl, hb1⟩
      have HBf2 := Lib.hid (bthen HBe.out hb1)
      have HSf := Lib.hid (HSO.out _ (HTf.out.1.on HBf2.out))
      clear hb1
      go_wp2_with fail
      refine hK.out _ _ (HSf.out) ?_
      clear hK K
      try simp only [Act.put, List.setIfInBounds_toArray, List.set_cons_zero, List.set_cons_succ]
      refine heldT_take (i := 36) (oi := ⟨some 137, .pick _ _ _, _, _, _, _⟩) (v := ?vnb31) rfl (by kernel_rfl) (by decide) (by kernel_rfl) (by kernel_rfl) (fun _ _ _ h => h) (Or.inl ⟨by rfl, ?hynb31⟩) HSf.out ?restnb31
      case hynb31 =>
        intro w hSw
        obtain ⟨⟨ha0, ha1⟩, ⟨hb0, hb1, hb2⟩, ⟨hc0, hc1, hc2⟩, ⟨hd0, hd1, hd2⟩, ⟨he0, he1⟩⟩ := hSw
        go_simp
        try with_reducible rfl
      try simp only [Act.put, List.setIfInBounds_toArray, List.set_cons_zero, List.set_cons_succ]
      refine heldT_take (i := 37) (oi := ⟨some 138, .move _, _, _, _, _⟩) (v := ?vnb32) rfl (by kernel_rfl) (by decide) (by kernel_rfl) (by kernel_rfl) (fun _ _ _ h => h) (Or.inl ⟨by rfl, ?hynb32⟩) HSf.out ?restnb32
      case hynb32 =>
        intro w hSw
        obtain ⟨⟨ha0, ha1⟩, ⟨hb0, hb1, hb2⟩, ⟨hc0, hc1, hc2⟩, ⟨hd0, hd1, hd2⟩, ⟨he0, he1⟩⟩ := hSw
        go_simp
        try with_reducible rfl
      try simp only [Act.put, List.setIfInBounds_toArray, List.set_cons_zero, List.set_cons_succ]
      refine heldT_take (i := 38) (oi := ⟨some 139, .load _ _, _, _, _, _⟩) (v := ?vnb33) rfl (by kernel_rfl) (by decide) (by kernel_rfl) (by kernel_rfl) (fun _ _ _ h => h) (Or.inl ⟨by rfl, ?hynb33⟩) HSf.out ?restnb33
      case hynb33 =>
        intro w hSw
        obtain ⟨⟨ha0, ha1⟩, ⟨hb0, hb1, hb2⟩, ⟨hc0, hc1, hc2⟩, ⟨hd0, hd1, hd2⟩, ⟨he0, he1⟩⟩ := hSw
        go_simp
        try with_reducible rfl
      try simp only [Act.put, List.setIfInBounds_toArray, List.set_cons_zero, List.set_cons_succ]
      refine heldT_take (i := 39) (oi := ⟨some 140, .move _, _, _, _, _⟩) (v := ?vnb34) rfl (by kernel_rfl) (by decide) (by kernel_rfl) (by kernel_rfl) (fun _ _ _ h => h) (Or.inl ⟨by rfl, ?hynb34⟩) HSf.out ?restnb34
      case hynb34 =>
        intro w hSw
        obtain ⟨⟨ha0, ha1⟩, ⟨hb0, hb1, hb2⟩, ⟨hc0, hc1, hc2⟩, ⟨hd0, hd1, hd2⟩, ⟨he0, he1⟩⟩ := hSw
        go_simp
        try with_reducible rfl
      try simp only [Act.put, List.setIfInBounds_toArray, List.set_cons_zero, List.set_cons_succ]
      refine heldT_take (i := 41) (oi := ⟨some 142, .load _ _, _, _, _, _⟩) (v := ?vnb35) rfl (by kernel_rfl) (by decide) (by kernel_rfl) (by kernel_rfl) (fun _ _ _ h => h) (Or.inl ⟨by rfl, ?hynb35⟩) HSf.out ?restnb35
      case hynb35 =>
        intro w hSw
        obtain ⟨⟨ha0, ha1⟩, ⟨hb0, hb1, hb2⟩, ⟨hc0, hc1, hc2⟩, ⟨hd0, hd1, hd2⟩, ⟨he0, he1⟩⟩ := hSw
        go_simp
        try with_reducible rfl
      try simp only [Act.put, List.setIfInBounds_toArray, List.set_cons_zero, List.set_cons_succ]
      refine heldT_take (i := 42) (oi := ⟨some 143, .move _, _, _, _, _⟩) (v := ?vnb36) rfl (by kernel_rfl) (by decide) (by kernel_rfl) (by kernel_rfl) (fun _ _ _ h => h) (Or.inl ⟨by rfl, ?hynb36⟩) HSf.out ?restnb36
      case hynb36 =>
        intro w hSw
        obtain ⟨⟨ha0, ha1⟩, ⟨hb0, hb1, hb2⟩, ⟨hc0, hc1, hc2⟩, ⟨hd0, hd1, hd2⟩, ⟨he0, he1⟩⟩ := hSw
        go_simp
        try with_reducible rfl
      try simp only [Act.put, List.setIfInBounds_toArray, List.set_cons_zero, List.set_cons_succ]
      refine heldT_one (i := 40) (o := ⟨some 141, .call _, _, _, _, _⟩) rfl (by kernel_rfl) (by decide) (fun K hK => ?_)
      go_simp
      refine (HO1.out _ HBf2.out).mono ?_
      rintro e wg ⟨rfl, hb1⟩
      have HBg := Lib.hid (bthen HBf2.out hb1)
      have HSg := Lib.hid (HSO.out _ (HTf.out.1.on HBg.out))
      clear hb1
      go_wp2_with fail
      refine hK.out _ _ (HSg.out) ?_
      clear hK K
      try simp only [Act.put, List.setIfInBounds_toArray, List.set_cons_zero, List.set_cons_succ]
      refine heldT_one (i := 43) (o := ⟨some 144, .call _, _, _, _, _⟩) rfl (by kernel_rfl) (by decide) (fun K hK => ?_)
      go_simp
      refine (HO2.out _ HBg.out).mono ?_
      rintro e wh ⟨rfl, hb1⟩
      have HBh := Lib.hid (bthen HBg.out hb1)
      have HSh := Lib.hid (HSO.out _ (HTf.out.1.on HBh.out))
      clear hb1
      go_wp2_with fail
      refine hK.out _ _ (HSh.out) ?_
      clear hK K
      try simp only [Act.put, List.setIfInBounds_toArray, List.set_cons_zero, List.set_cons_succ]
      refine heldT_take (i := 44) (oi := ⟨some 145, .binOp _ _ _ _ _, _, _, _, _⟩) (v := ?vnb37) rfl (by kernel_rfl) (by decide) (by kernel_rfl) (by kernel_rfl) (fun _ _ _ h => h) (Or.inl ⟨by rfl, ?hynb37⟩) HSh.out ?restnb37
      case hynb37 =>
        intro w hSw
        obtain ⟨⟨ha0, ha1⟩, ⟨hb0, hb1, hb2⟩, ⟨hc0, hc1, hc2⟩, ⟨hd0, hd1, hd2⟩, ⟨he0, he1⟩⟩ := hSw
        go_simp
        try with_reducible rfl
      try simp only [Act.put, List.setIfInBounds_toArray, List.set_cons_zero, List.set_cons_succ]
      refine heldT_take (i := 45) (oi := ⟨some 146, .pick _ _ _, _, _, _, _⟩) (v := ?vnb38) rfl (by kernel_rfl) (by decide) (by kernel_rfl) (by kernel_rfl) (fun _ _ _ h => h) (Or.inl ⟨by rfl, ?hynb38⟩) HSh.out ?restnb38
      case hynb38 =>
        intro w hSw
        obtain ⟨⟨ha0, ha1⟩, ⟨hb0, hb1, hb2⟩, ⟨hc0, hc1, hc2⟩, ⟨hd0, hd1, hd2⟩, ⟨he0, he1⟩⟩ := hSw
        go_simp
        try with_reducible rfl
      try simp only [Act.put, List.setIfInBounds_toArray, List.set_cons_zero, List.set_cons_succ]
      refine heldT_done (by kernel_rfl) ?_
      go_wp2
      go_ret
      exact ⟨rfl, bthen HTf.out.1.2 HBh.out⟩
    | some ta =>
      have HG := Lib.hid hg
      obtain ⟨bv, hbf, hbt⟩ : ∃ bv, l.find? (fun y => y.t.id == id) = some bv ∧ bv.t = ta := by
        have h := find_tv (id := id) HRi.out
        rw [hg] at h
        exact Option.map_eq_some_iff.1 h
      have HBf := Lib.hid hbf
      have HBv : Hid (bv.t = ta ∧ ∀ w', Below w.heap.size w w' → Rd w' w'.heap.size bv.A (tws bv.t.ws)) := Lib.hid ⟨hbt, fun w' hb => ((HI.out.rd.2 _ (List.mem_of_find?_eq_some hbf)).below hb).more hb.size⟩
      have HK : Hid ((if (gett id (l.map Tv.t)).isSome then (0 : Int) else 9) = 0) := Lib.hid (by rw [hg]; rfl)
      clear hg hbf hbt
      obtain ⟨c0, c1⟩ := HTq.out.cellsL (.tail _ (.head _))
      go_wp2_with fail
      refine (get_yes (x := ⟨nx, l, A, cap⟩) (HI.out.on HTq.out.2) HRi.out HG.out).mono ?_
      rintro e w10 ⟨Aa, ca, rfl, hown, hti, hb⟩
      have HTa := Lib.hid (And.intro (HTq.out.on hb) (And.intro hti (Rd.own hown)))
      clear hown hti hb c0 c1
      go_wp2_with (first
        | ((with_reducible refine wpList_alloc_box _ (o := ⟨some 13, .alloc _, _, _, _, _⟩) rfl _ rfl (tnc tz) zero_tn ?_); intro w110 x110 B110 s110)
        | ((with_reducible refine wpList_store_var _ (o := ⟨none, .store _ (.tmp 13) _, _, _, _, _⟩) rfl 27 _ _ rfl w10.heap.size (tnc ⟨ta, Aa, ca⟩) (tnc tz) (tn_size _) rfl (tnc_one _) rfl rfl x110 ?_); go_loud (intro w11 x11 g11; have K11 := below_stored B110 g11 B110.size (Nat.le_refl _); have HTb := Lib.hid (And.intro (HTa.out.1.made B110 g11 x11) (And.intro HTa.out.2.1 ((HTa.out.2.2.below K11).more K11.size))); obtain ⟨c0, c1⟩ := HTb.out.1.cellsL (.tail _ (.tail _ (.head _))); clear x110 B110 s110 g11 x11 K11; generalize w10.heap.size = b13 at *))
        | fail)
      clear HTa
      refine (rget_yes (x := ⟨nx, l, A, cap⟩) (HI.out.on HTb.out.1.2) HBf.out).mono ?_
      rintro e w12 ⟨rfl, hb⟩
      have HTc := Lib.hid (And.intro (HTb.out.1.on hb) (And.intro HTb.out.2.1 ((HTb.out.2.2.below hb).more hb.size)))
      clear hb c0 c1 HTb
      go_wp2_with (first
        | ((with_reducible refine wpList_alloc_box _ (o := ⟨some 15, .alloc _, _, _, _, _⟩) rfl _ rfl (tnc tz) zero_tn ?_); intro w130 x130 B130 s130)
        | ((with_reducible refine wpList_store_var _ (o := ⟨none, .store _ (.tmp 15) _, _, _, _, _⟩) rfl 27 _ _ rfl w12.heap.size (tnc bv) (tnc tz) (tn_size _) rfl (tnc_one _) rfl rfl x130 ?_); go_loud (intro w13 x13 g13; have K13 := below_stored B130 g13 B130.size (Nat.le_refl _); have HTd := Lib.hid (And.intro (HTc.out.1.made B130 g13 x13) (And.intro HTc.out.2.1 ((HTc.out.2.2.below K13).more K13.size))); obtain ⟨c0, c1⟩ := HTd.out.1.cellsL (.tail _ (.tail _ (.tail _ (.head _)))); clear x130 B130 s130 g13 x13 K13; generalize w12.heap.size = b15 at *))
        | fail)
      clear HTc
      refine (drop_is (x := ⟨nx, l, A, cap⟩) (k := 0) (HI.out.on HTd.out.1.2) HRi.out HK.out).mono ?_
      rintro e w14 ⟨⟨ny, ld, Ad, cd⟩, rfl, hny, hmap, hown, hb⟩
      obtain rfl : nx = ny := Eq.symm hny
      have hmap : ld.map Tv.t = dropT id (l.map Tv.t) := hmap
      have HTe := Lib.hid (And.intro (HTd.out.1.on hb) (And.intro HTd.out.2.1 (And.intro ((HTd.out.2.2.below hb).more hb.size) (hown.inS hmap (Nat.le_trans (len_drop id HRi.out) (by have := HI.out.few; rw [List.length_map]; exact this)) (fun t ht => by obtain ⟨z, hz, rfl⟩ := List.mem_map.1 (mem_drop HRi.out ht); exact HI.out.each z hz)))))
      have HDm := Lib.hid hmap
      clear hmap hown hb c0 c1 HTd
      go_wp2_with (first
        | ((with_reducible refine wpList_alloc_box _ (o := ⟨some 17, .alloc _, _, _, _, _⟩) rfl _ rfl (lgc lz) zero_lg ?_); intro w150 x150 B150 s150)
        | ((with_reducible refine wpList_store_var _ (o := ⟨none, .store _ (.tmp 17) _, _, _, _, _⟩) rfl 24 _ _ rfl w14.heap.size (lgc ⟨nx, ld, Ad, cd⟩) (lgc lz) (lg_size _) rfl (lgc_one _) rfl rfl x150 ?_); go_loud (intro w15 x15 g15; have K15 := below_stored B150 g15 B150.size (Nat.le_refl _); have HTf := Lib.hid (And.intro (HTe.out.1.made B150 g15 x15) (And.intro HTe.out.2.1 (And.intro ((HTe.out.2.2.1.below K15).more K15.size) (HTe.out.2.2.2.on K15)))); clear x150 B150 s150 g15 x15 K15; generalize w14.heap.size = b17 at *))
        | fail)
      clear HTe
      have HSO := Lib.hid fun w' (h : TBx w w' [(b17, 24, lgc ⟨nx, ld, Ad, cd⟩), (b15, 27, tnc bv), (b13, 27, tnc ⟨ta, Aa, ca⟩), (b7, 27, tnc ⟨t, At, ct⟩), (w.heap.size, 24, lgc ⟨nx, l, A, cap⟩)]) => (⟨h.cellsL (.tail _ (.tail _ (.tail _ (.tail _ (.head _))))), h.cellsT (.tail _ (.tail _ (.tail _ (.head _)))), h.cellsT (.tail _ (.tail _ (.head _))), h.cellsT (.tail _ (.head _)), h.cellsL (.head _)⟩ : (w'.cell? ⟨w.heap.size, 0, none⟩ = some (.int .i64 nx) ∧ w'.cell? ⟨w.heap.size, 1, none⟩ = some (.slice A l.length cap)) ∧ (w'.cell? ⟨b7, 0, none⟩ = some (.int .i64 t.id) ∧ w'.cell? ⟨b7, 1, none⟩ = some (.int .i64 t.bg) ∧ w'.cell? ⟨b7, 2, none⟩ = some (.slice At t.ws.length ct)) ∧ (w'.cell? ⟨b13, 0, none⟩ = some (.int .i64 ta.id) ∧ w'.cell? ⟨b13, 1, none⟩ = some (.int .i64 ta.bg) ∧ w'.cell? ⟨b13, 2, none⟩ = some (.slice Aa ta.ws.length ca)) ∧ (w'.cell? ⟨b15, 0, none⟩ = some (.int .i64 bv.t.id) ∧ w'.cell? ⟨b15, 1, none⟩ = some (.int .i64 bv.t.bg) ∧ w'.cell? ⟨b15, 2, none⟩ = some (.slice bv.A bv.t.ws.length bv.cap)) ∧ (w'.cell? ⟨b17, 0, none⟩ = some (.int .i64 nx) ∧ w'.cell? ⟨b17, 1, none⟩ = some (.slice Ad ld.length cd)))
      have HSm : Hid (∀ w', Below w15.heap.size w15 w' → Calls Try.prog 13 #[.agg #[.int .i64 ta.id, .int .i64 ta.bg, .slice Aa ta.ws.length ca], .agg #[.int .i64 bv.t.id, .int .i64 bv.t.bg, .slice bv.A bv.t.ws.length bv.cap]] w' fun e w'' => e = .returned (.bool true) ∧ Below w'.heap.size w' w'') := Lib.hid fun w' hb => by
        exact rsame_yes (x := ⟨ta, Aa, ca⟩) (y := bv) HTf.out.2.1 (by rw [HBv.out.1]; exact HTf.out.2.1) ((HTf.out.2.2.1.below hb).more hb.size) (HBv.out.2 _ (bthen HTf.out.1.2 hb)) HBv.out.1.symm
      have HRd : Hid (∀ w', Below w15.heap.size w15 w' → Calls Try.prog 14 #[.agg #[.int .i64 nx, .slice A l.length cap], .int .i64 id] w' fun e w'' => ∃ lz Az cz, e = .returned (.agg #[.int .i64 nx, .slice Az lz.length cz]) ∧ lz.map Tv.t = dropT id (l.map Tv.t) ∧ LIn w'' ⟨nx, lz, Az, cz⟩ ∧ Below w'.heap.size w' w'') := Lib.hid fun w' hb => by
        refine (rdrop_any ⟨nx, l, A, cap⟩ id w' (HI.out.on (bthen HTf.out.1.2 hb))).mono ?_
        rintro e w'' ⟨⟨ny, lz, Az, cz⟩, rfl, hny, hl, hin, hb2⟩
        obtain rfl : nx = ny := Eq.symm hny
        exact ⟨lz, Az, cz, rfl, by rw [show lz = l.flatMap (withS id tz true) from hl]; exact with_drop HRi.out, hin, hb2⟩
      have HA1 : Hid (∀ w' lz Az cz, lz.map Tv.t = dropT id (l.map Tv.t) → LIn w' ⟨nx, lz, Az, cz⟩ → Below w15.heap.size w15 w' → Calls Try.prog 9 #[.agg #[.int .i64 nx, .slice Ad ld.length cd], .agg #[.int .i64 nx, .slice Az lz.length cz]] w' fun e w'' => e = .returned (.bool true) ∧ Below w'.heap.size w' w'') := Lib.hid fun w' lz Az cz hm hi hb => by
        exact rsameall_yes (x := ⟨nx, ld, Ad, cd⟩) (y := ⟨nx, lz, Az, cz⟩) (HTf.out.2.2.2.on hb) hi ⟨rfl, by show ld.map Tv.t = lz.map Tv.t; rw [HDm.out, hm]⟩
      have HSt : Hid (∀ w', Below w15.heap.size w15 w' → Calls Try.prog 15 #[.agg #[.int .i64 nx, .slice A l.length cap], .agg #[.int .i64 t.id, .int .i64 t.bg, .slice At t.ws.length ct]] w' fun e w'' => ∃ ls As cs, e = .returned (.agg #[.int .i64 nx, .slice As ls.length cs]) ∧ ls.map Tv.t = setT t (l.map Tv.t) ∧ LIn w'' ⟨nx, ls, As, cs⟩ ∧ Below w'.heap.size w' w'') := Lib.hid fun w' hb => by
        refine (set_any ⟨nx, l, A, cap⟩ ⟨t, At, ct⟩ w' (HI.out.on (bthen HTf.out.1.2 hb)) HRi.out HTi.out ((HX.out.2.rd.below (bthen HTf.out.1.2 hb)).more (bthen HTf.out.1.2 hb).size)).mono ?_
        rintro e w'' ⟨⟨ny, ls, As, cs⟩, rfl, hny, hl, hown, hb2⟩
        obtain rfl : nx = ny := Eq.symm hny
        exact ⟨ls, As, cs, rfl, hl, hown.inS hl (by rw [len_set _ HRi.out, List.length_map]; exact HI.out.few) (fun q hq => by
          rcases mem_set HRi.out hq with rfl | hq
          · exact HTi.out
          · obtain ⟨z, hz, rfl⟩ := List.mem_map.1 hq; exact HI.out.each z hz), hb2⟩
      have HRs : Hid (∀ w', Below w15.heap.size w15 w' → Calls Try.prog 16 #[.agg #[.int .i64 nx, .slice A l.length cap], .agg #[.int .i64 t.id, .int .i64 t.bg, .slice At t.ws.length ct]] w' fun e w'' => ∃ ls As cs, e = .returned (.agg #[.int .i64 nx, .slice As ls.length cs]) ∧ ls.map Tv.t = setT t (l.map Tv.t) ∧ LIn w'' ⟨nx, ls, As, cs⟩ ∧ Below w'.heap.size w' w'') := Lib.hid fun w' hb => by
        refine (rset_any ⟨nx, l, A, cap⟩ ⟨t, At, ct⟩ w' (HI.out.on (bthen HTf.out.1.2 hb)) HTi.out ((HX.out.2.rd.below (bthen HTf.out.1.2 hb)).more (bthen HTf.out.1.2 hb).size)).mono ?_
        rintro e w'' ⟨⟨ny, ls, As, cs⟩, rfl, hny, hl, hin, hb2⟩
        obtain rfl : nx = ny := Eq.symm hny
        exact ⟨ls, As, cs, rfl, by rw [show ls = l.flatMap (withS t.id ⟨t, At, ct⟩ false) from hl]; exact with_set ⟨t, At, ct⟩ HRi.out, hin, hb2⟩
      have HA2 : Hid (∀ w' ls As cs lz Az cz, ls.map Tv.t = setT t (l.map Tv.t) → lz.map Tv.t = setT t (l.map Tv.t) → LIn w' ⟨nx, ls, As, cs⟩ → LIn w' ⟨nx, lz, Az, cz⟩ → Calls Try.prog 9 #[.agg #[.int .i64 nx, .slice As ls.length cs], .agg #[.int .i64 nx, .slice Az lz.length cz]] w' fun e w'' => e = .returned (.bool true) ∧ Below w'.heap.size w' w'') := Lib.hid fun w' ls As cs lz Az cz hm1 hm2 hi1 hi2 => by
        exact rsameall_yes (x := ⟨nx, ls, As, cs⟩) (y := ⟨nx, lz, Az, cz⟩) hi1 hi2 ⟨rfl, by show ls.map Tv.t = lz.map Tv.t; rw [hm1, hm2]⟩
      have HO1 : Hid (∀ w', Below w15.heap.size w15 w' → Calls Try.prog 17 #[.agg #[.int .i64 nx, .slice A l.length cap], .int .i64 now] w' fun e w'' => e = .returned (.int .i64 od) ∧ Below w'.heap.size w' w'') := Lib.hid fun w' hb => by
        rw [← Hod.out]
        exact oldest_any ⟨nx, l, A, cap⟩ now w' (HI.out.on (bthen HTf.out.1.2 hb))
      have HO2 : Hid (∀ w', Below w15.heap.size w15 w' → Calls Try.prog 18 #[.agg #[.int .i64 nx, .slice A l.length cap], .int .i64 now] w' fun e w'' => e = .returned (.int .i64 od) ∧ Below w'.heap.size w' w'') := Lib.hid fun w' hb => by
        rw [← Hod.out]
        exact roldest_any18 ⟨nx, l, A, cap⟩ now w' (HI.out.on (bthen HTf.out.1.2 hb))
      have HS0 := Lib.hid (HSO.out _ HTf.out.1.drew)
      go_wp2_with fail
      refine wp_region_heldT (fun w' => (w'.cell? ⟨w.heap.size, 0, none⟩ = some (.int .i64 nx) ∧ w'.cell? ⟨w.heap.size, 1, none⟩ = some (.slice A l.length cap)) ∧ (w'.cell? ⟨b7, 0, none⟩ = some (.int .i64 t.id) ∧ w'.cell? ⟨b7, 1, none⟩ = some (.int .i64 t.bg) ∧ w'.cell? ⟨b7, 2, none⟩ = some (.slice At t.ws.length ct)) ∧ (w'.cell? ⟨b13, 0, none⟩ = some (.int .i64 ta.id) ∧ w'.cell? ⟨b13, 1, none⟩ = some (.int .i64 ta.bg) ∧ w'.cell? ⟨b13, 2, none⟩ = some (.slice Aa ta.ws.length ca)) ∧ (w'.cell? ⟨b15, 0, none⟩ = some (.int .i64 bv.t.id) ∧ w'.cell? ⟨b15, 1, none⟩ = some (.int .i64 bv.t.bg) ∧ w'.cell? ⟨b15, 2, none⟩ = some (.slice bv.A bv.t.ws.length bv.cap)) ∧ (w'.cell? ⟨b17, 0, none⟩ = some (.int .i64 nx) ∧ w'.cell? ⟨b17, 1, none⟩ = some (.slice Ad ld.length cd))) 46 (by kernel_rfl) (by kernel_rfl) ?_
      refine heldT_take (i := 0) (oi := ⟨some 101, .load _ _, _, _, _, _⟩) (v := ?vyb1) rfl (by kernel_rfl) (by decide) (by kernel_rfl) (by kernel_rfl) (fun _ _ _ h => h) (Or.inl ⟨by rfl, ?hyyb1⟩) HS0.out ?restyb1
      case hyyb1 =>
        intro w hSw
        obtain ⟨⟨ha0, ha1⟩, ⟨hb0, hb1, hb2⟩, ⟨hc0, hc1, hc2⟩, ⟨hd0, hd1, hd2⟩, ⟨he0, he1⟩⟩ := hSw
        go_simp
        try with_reducible rfl
      try simp only [Act.put, List.setIfInBounds_toArray, List.set_cons_zero, List.set_cons_succ]
      refine heldT_take (i := 1) (oi := ⟨some 102, .load _ _, _, _, _, _⟩) (v := ?vyb2) rfl (by kernel_rfl) (by decide) (by kernel_rfl) (by kernel_rfl) (fun _ _ _ h => h) (Or.inl ⟨by rfl, ?hyyb2⟩) HS0.out ?restyb2
      case hyyb2 =>
        intro w hSw
        obtain ⟨⟨ha0, ha1⟩, ⟨hb0, hb1, hb2⟩, ⟨hc0, hc1, hc2⟩, ⟨hd0, hd1, hd2⟩, ⟨he0, he1⟩⟩ := hSw
        go_simp
        try with_reducible rfl
      try simp only [Act.put, List.setIfInBounds_toArray, List.set_cons_zero, List.set_cons_succ]
      refine heldT_one (i := 2) (o := ⟨some 103, .call _, _, _, _, _⟩) rfl (by kernel_rfl) (by decide) (fun K hK => ?_)
      go_simp
      refine (HSm.out _ (Below.refl _ _).drew).mono ?_
      rintro e wa ⟨rfl, hb1⟩
      have HBa := Lib.hid (bthen (Below.refl _ _).drew hb1)
      have HSa := Lib.hid (HSO.out _ (HTf.out.1.on HBa.out))
      clear hb1
      go_wp2_with fail
      refine hK.out _ _ (HSa.out) ?_
      clear hK K
      try simp only [Act.put, List.setIfInBounds_toArray, List.set_cons_zero, List.set_cons_succ]
      refine heldT_take (i := 3) (oi := ⟨some 104, .move _, _, _, _, _⟩) (v := ?vyb3) rfl (by kernel_rfl) (by decide) (by kernel_rfl) (by kernel_rfl) (fun _ _ _ h => h) (Or.inl ⟨by rfl, ?hyyb3⟩) HSa.out ?restyb3
      case hyyb3 =>
        intro w hSw
        obtain ⟨⟨ha0, ha1⟩, ⟨hb0, hb1, hb2⟩, ⟨hc0, hc1, hc2⟩, ⟨hd0, hd1, hd2⟩, ⟨he0, he1⟩⟩ := hSw
        go_simp
        try with_reducible rfl
      try simp only [Act.put, List.setIfInBounds_toArray, List.set_cons_zero, List.set_cons_succ]
      refine heldT_take (i := 4) (oi := ⟨some 105, .move _, _, _, _, _⟩) (v := ?vyb4) rfl (by kernel_rfl) (by decide) (by kernel_rfl) (by kernel_rfl) (fun _ _ _ h => h) (Or.inl ⟨by rfl, ?hyyb4⟩) HSa.out ?restyb4
      case hyyb4 =>
        intro w hSw
        obtain ⟨⟨ha0, ha1⟩, ⟨hb0, hb1, hb2⟩, ⟨hc0, hc1, hc2⟩, ⟨hd0, hd1, hd2⟩, ⟨he0, he1⟩⟩ := hSw
        go_simp
        try with_reducible rfl
      try simp only [Act.put, List.setIfInBounds_toArray, List.set_cons_zero, List.set_cons_succ]
      refine heldT_take (i := 6) (oi := ⟨some 107, .move _, _, _, _, _⟩) (v := ?vyb5) rfl (by kernel_rfl) (by decide) (by kernel_rfl) (by kernel_rfl) (fun _ _ _ h => h) (Or.inl ⟨by rfl, ?hyyb5⟩) HSa.out ?restyb5
      case hyyb5 =>
        intro w hSw
        obtain ⟨⟨ha0, ha1⟩, ⟨hb0, hb1, hb2⟩, ⟨hc0, hc1, hc2⟩, ⟨hd0, hd1, hd2⟩, ⟨he0, he1⟩⟩ := hSw
        go_simp
        try with_reducible rfl
      try simp only [Act.put, List.setIfInBounds_toArray, List.set_cons_zero, List.set_cons_succ]
      refine heldT_take (i := 5) (oi := ⟨some 106, .binOp _ _ _ _ _, _, _, _, _⟩) (v := ?vyb6) rfl (by kernel_rfl) (by decide) (by kernel_rfl) (by kernel_rfl) (fun _ _ _ h => h) (Or.inl ⟨by rfl, ?hyyb6⟩) HSa.out ?restyb6
      case hyyb6 =>
        intro w hSw
        obtain ⟨⟨ha0, ha1⟩, ⟨hb0, hb1, hb2⟩, ⟨hc0, hc1, hc2⟩, ⟨hd0, hd1, hd2⟩, ⟨he0, he1⟩⟩ := hSw
        go_simp
        try with_reducible rfl
      try simp only [Act.put, List.setIfInBounds_toArray, List.set_cons_zero, List.set_cons_succ]
      refine heldT_take (i := 7) (oi := ⟨some 108, .binOp _ _ _ _ _, _, _, _, _⟩) (v := ?vyb7) rfl (by kernel_rfl) (by decide) (by kernel_rfl) (by kernel_rfl) (fun _ _ _ h => h) (Or.inl ⟨by rfl, ?hyyb7⟩) HSa.out ?restyb7
      case hyyb7 =>
        intro w hSw
        obtain ⟨⟨ha0, ha1⟩, ⟨hb0, hb1, hb2⟩, ⟨hc0, hc1, hc2⟩, ⟨hd0, hd1, hd2⟩, ⟨he0, he1⟩⟩ := hSw
        go_simp
        try with_reducible rfl
      try simp only [Act.put, List.setIfInBounds_toArray, List.set_cons_zero, List.set_cons_succ]
      refine heldT_take (i := 8) (oi := ⟨some 109, .pick _ _ _, _, _, _, _⟩) (v := ?vyb8) rfl (by kernel_rfl) (by decide) (by kernel_rfl) (by kernel_rfl) (fun _ _ _ h => h) (Or.inl ⟨by rfl, ?hyyb8⟩) HSa.out ?restyb8
      case hyyb8 =>
        intro w hSw
        obtain ⟨⟨ha0, ha1⟩, ⟨hb0, hb1, hb2⟩, ⟨hc0, hc1, hc2⟩, ⟨hd0, hd1, hd2⟩, ⟨he0, he1⟩⟩ := hSw
        go_simp
        try with_reducible rfl
      try simp only [Act.put, List.setIfInBounds_toArray, List.set_cons_zero, List.set_cons_succ]
      refine heldT_take (i := 9) (oi := ⟨some 110, .move _, _, _, _, _⟩) (v := ?vyb9) rfl (by kernel_rfl) (by decide) (by kernel_rfl) (by kernel_rfl) (fun _ _ _ h => h) (Or.inl ⟨by rfl, ?hyyb9⟩) HSa.out ?restyb9
      case hyyb9 =>
        intro w hSw
        obtain ⟨⟨ha0, ha1⟩, ⟨hb0, hb1, hb2⟩, ⟨hc0, hc1, hc2⟩, ⟨hd0, hd1, hd2⟩, ⟨he0, he1⟩⟩ := hSw
        go_simp
        try with_reducible rfl
      try simp only [Act.put, List.setIfInBounds_toArray, List.set_cons_zero, List.set_cons_succ]
      refine heldT_take (i := 10) (oi := ⟨some 111, .move _, _, _, _, _⟩) (v := ?vyb10) rfl (by kernel_rfl) (by decide) (by kernel_rfl) (by kernel_rfl) (fun _ _ _ h => h) (Or.inl ⟨by rfl, ?hyyb10⟩) HSa.out ?restyb10
      case hyyb10 =>
        intro w hSw
        obtain ⟨⟨ha0, ha1⟩, ⟨hb0, hb1, hb2⟩, ⟨hc0, hc1, hc2⟩, ⟨hd0, hd1, hd2⟩, ⟨he0, he1⟩⟩ := hSw
        go_simp
        try with_reducible rfl
      try simp only [Act.put, List.setIfInBounds_toArray, List.set_cons_zero, List.set_cons_succ]
      refine heldT_take (i := 11) (oi := ⟨some 112, .move _, _, _, _, _⟩) (v := ?vyb11) rfl (by kernel_rfl) (by decide) (by kernel_rfl) (by kernel_rfl) (fun _ _ _ h => h) (Or.inl ⟨by rfl, ?hyyb11⟩) HSa.out ?restyb11
      case hyyb11 =>
        intro w hSw
        obtain ⟨⟨ha0, ha1⟩, ⟨hb0, hb1, hb2⟩, ⟨hc0, hc1, hc2⟩, ⟨hd0, hd1, hd2⟩, ⟨he0, he1⟩⟩ := hSw
        go_simp
        try with_reducible rfl
      try simp only [Act.put, List.setIfInBounds_toArray, List.set_cons_zero, List.set_cons_succ]
      refine heldT_take (i := 12) (oi := ⟨some 113, .move _, _, _, _, _⟩) (v := undef) rfl (by kernel_rfl) (by decide) (by kernel_rfl) (by kernel_rfl) (fun _ _ _ h => h) (Or.inr ⟨by rfl, rfl⟩) HSa.out ?restyb12
      try simp only [Act.put, List.setIfInBounds_toArray, List.set_cons_zero, List.set_cons_succ]
      refine heldT_take (i := 13) (oi := ⟨some 114, .binOp _ _ _ _ _, _, _, _, _⟩) (v := undef) rfl (by kernel_rfl) (by decide) (by kernel_rfl) (by kernel_rfl) (fun _ _ _ h => h) (Or.inr ⟨by rfl, rfl⟩) HSa.out ?restyb13
      try simp only [Act.put, List.setIfInBounds_toArray, List.set_cons_zero, List.set_cons_succ]
      refine heldT_take (i := 14) (oi := ⟨some 115, .pick _ _ _, _, _, _, _⟩) (v := ?vyb14) rfl (by kernel_rfl) (by decide) (by kernel_rfl) (by kernel_rfl) (fun _ _ _ h => h) (Or.inl ⟨by rfl, ?hyyb14⟩) HSa.out ?restyb14
      case hyyb14 =>
        intro w hSw
        obtain ⟨⟨ha0, ha1⟩, ⟨hb0, hb1, hb2⟩, ⟨hc0, hc1, hc2⟩, ⟨hd0, hd1, hd2⟩, ⟨he0, he1⟩⟩ := hSw
        go_simp
        try with_reducible rfl
      try simp only [Act.put, List.setIfInBounds_toArray, List.set_cons_zero, List.set_cons_succ]
      refine heldT_take (i := 15) (oi := ⟨some 116, .pick _ _ _, _, _, _, _⟩) (v := ?vyb15) rfl (by kernel_rfl) (by decide) (by kernel_rfl) (by kernel_rfl) (fun _ _ _ h => h) (Or.inl ⟨by rfl, ?hyyb15⟩) HSa.out ?restyb15
      case hyyb15 =>
        intro w hSw
        obtain ⟨⟨ha0, ha1⟩, ⟨hb0, hb1, hb2⟩, ⟨hc0, hc1, hc2⟩, ⟨hd0, hd1, hd2⟩, ⟨he0, he1⟩⟩ := hSw
        go_simp
        try with_reducible rfl
      try simp only [Act.put, List.setIfInBounds_toArray, List.set_cons_zero, List.set_cons_succ]
      refine heldT_take (i := 16) (oi := ⟨some 117, .move _, _, _, _, _⟩) (v := ?vyb16) rfl (by kernel_rfl) (by decide) (by kernel_rfl) (by kernel_rfl) (fun _ _ _ h => h) (Or.inl ⟨by rfl, ?hyyb16⟩) HSa.out ?restyb16
      case hyyb16 =>
        intro w hSw
        obtain ⟨⟨ha0, ha1⟩, ⟨hb0, hb1, hb2⟩, ⟨hc0, hc1, hc2⟩, ⟨hd0, hd1, hd2⟩, ⟨he0, he1⟩⟩ := hSw
        go_simp
        try with_reducible rfl
      try simp only [Act.put, List.setIfInBounds_toArray, List.set_cons_zero, List.set_cons_succ]
      refine heldT_take (i := 17) (oi := ⟨some 118, .move _, _, _, _, _⟩) (v := ?vyb17) rfl (by kernel_rfl) (by decide) (by kernel_rfl) (by kernel_rfl) (fun _ _ _ h => h) (Or.inl ⟨by rfl, ?hyyb17⟩) HSa.out ?restyb17
      case hyyb17 =>
        intro w hSw
        obtain ⟨⟨ha0, ha1⟩, ⟨hb0, hb1, hb2⟩, ⟨hc0, hc1, hc2⟩, ⟨hd0, hd1, hd2⟩, ⟨he0, he1⟩⟩ := hSw
        go_simp
        try with_reducible rfl
      try simp only [Act.put, List.setIfInBounds_toArray, List.set_cons_zero, List.set_cons_succ]
      refine heldT_take (i := 18) (oi := ⟨some 119, .move _, _, _, _, _⟩) (v := ?vyb18) rfl (by kernel_rfl) (by decide) (by kernel_rfl) (by kernel_rfl) (fun _ _ _ h => h) (Or.inl ⟨by rfl, ?hyyb18⟩) HSa.out ?restyb18
      case hyyb18 =>
        intro w hSw
        obtain ⟨⟨ha0, ha1⟩, ⟨hb0, hb1, hb2⟩, ⟨hc0, hc1, hc2⟩, ⟨hd0, hd1, hd2⟩, ⟨he0, he1⟩⟩ := hSw
        go_simp
        try with_reducible rfl
      try simp only [Act.put, List.setIfInBounds_toArray, List.set_cons_zero, List.set_cons_succ]
      refine heldT_take (i := 19) (oi := ⟨some 120, .binOp _ _ _ _ _, _, _, _, _⟩) (v := ?vyb19) rfl (by kernel_rfl) (by decide) (by kernel_rfl) (by kernel_rfl) (fun _ _ _ h => h) (Or.inl ⟨by rfl, ?hyyb19⟩) HSa.out ?restyb19
      case hyyb19 =>
        intro w hSw
        obtain ⟨⟨ha0, ha1⟩, ⟨hb0, hb1, hb2⟩, ⟨hc0, hc1, hc2⟩, ⟨hd0, hd1, hd2⟩, ⟨he0, he1⟩⟩ := hSw
        go_simp
        try with_reducible rfl
      try simp only [Act.put, List.setIfInBounds_toArray, List.set_cons_zero, List.set_cons_succ]
      refine heldT_take (i := 20) (oi := ⟨some 121, .pick _ _ _, _, _, _, _⟩) (v := ?vyb20) rfl (by kernel_rfl) (by decide) (by kernel_rfl) (by kernel_rfl) (fun _ _ _ h => h) (Or.inl ⟨by rfl, ?hyyb20⟩) HSa.out ?restyb20
      case hyyb20 =>
        intro w hSw
        obtain ⟨⟨ha0, ha1⟩, ⟨hb0, hb1, hb2⟩, ⟨hc0, hc1, hc2⟩, ⟨hd0, hd1, hd2⟩, ⟨he0, he1⟩⟩ := hSw
        go_simp
        try with_reducible rfl
      try simp only [Act.put, List.setIfInBounds_toArray, List.set_cons_zero, List.set_cons_succ]
      refine heldT_take (i := 21) (oi := ⟨some 122, .move _, _, _, _, _⟩) (v := ?vyb21) rfl (by kernel_rfl) (by decide) (by kernel_rfl) (by kernel_rfl) (fun _ _ _ h => h) (Or.inl ⟨by rfl, ?hyyb21⟩) HSa.out ?restyb21
      case hyyb21 =>
        intro w hSw
        obtain ⟨⟨ha0, ha1⟩, ⟨hb0, hb1, hb2⟩, ⟨hc0, hc1, hc2⟩, ⟨hd0, hd1, hd2⟩, ⟨he0, he1⟩⟩ := hSw
        go_simp
        try with_reducible rfl
      try simp only [Act.put, List.setIfInBounds_toArray, List.set_cons_zero, List.set_cons_succ]
      refine heldT_take (i := 22) (oi := ⟨some 123, .load _ _, _, _, _, _⟩) (v := ?vyb22) rfl (by kernel_rfl) (by decide) (by kernel_rfl) (by kernel_rfl) (fun _ _ _ h => h) (Or.inl ⟨by rfl, ?hyyb22⟩) HSa.out ?restyb22
      case hyyb22 =>
        intro w hSw
        obtain ⟨⟨ha0, ha1⟩, ⟨hb0, hb1, hb2⟩, ⟨hc0, hc1, hc2⟩, ⟨hd0, hd1, hd2⟩, ⟨he0, he1⟩⟩ := hSw
        go_simp
        try with_reducible rfl
      try simp only [Act.put, List.setIfInBounds_toArray, List.set_cons_zero, List.set_cons_succ]
      refine heldT_take (i := 23) (oi := ⟨some 124, .load _ _, _, _, _, _⟩) (v := ?vyb23) rfl (by kernel_rfl) (by decide) (by kernel_rfl) (by kernel_rfl) (fun _ _ _ h => h) (Or.inl ⟨by rfl, ?hyyb23⟩) HSa.out ?restyb23
      case hyyb23 =>
        intro w hSw
        obtain ⟨⟨ha0, ha1⟩, ⟨hb0, hb1, hb2⟩, ⟨hc0, hc1, hc2⟩, ⟨hd0, hd1, hd2⟩, ⟨he0, he1⟩⟩ := hSw
        go_simp
        try with_reducible rfl
      try simp only [Act.put, List.setIfInBounds_toArray, List.set_cons_zero, List.set_cons_succ]
      refine heldT_take (i := 24) (oi := ⟨some 125, .move _, _, _, _, _⟩) (v := ?vyb24) rfl (by kernel_rfl) (by decide) (by kernel_rfl) (by kernel_rfl) (fun _ _ _ h => h) (Or.inl ⟨by rfl, ?hyyb24⟩) HSa.out ?restyb24
      case hyyb24 =>
        intro w hSw
        obtain ⟨⟨ha0, ha1⟩, ⟨hb0, hb1, hb2⟩, ⟨hc0, hc1, hc2⟩, ⟨hd0, hd1, hd2⟩, ⟨he0, he1⟩⟩ := hSw
        go_simp
        try with_reducible rfl
      try simp only [Act.put, List.setIfInBounds_toArray, List.set_cons_zero, List.set_cons_succ]
      refine heldT_one (i := 25) (o := ⟨some 126, .call _, _, _, _, _⟩) rfl (by kernel_rfl) (by decide) (fun K hK => ?_)
      go_simp
      refine (HRd.out _ HBa.out).mono ?_
      rintro e wb ⟨lq, Aq, cq, rfl, hm1, hi1, hb1⟩
      have HBb := Lib.hid (bthen HBa.out hb1)
      have HSb := Lib.hid (HSO.out _ (HTf.out.1.on HBb.out))
      have HQ := Lib.hid (And.intro hm1 hi1)
      clear hm1 hi1 hb1
      go_wp2_with fail
      refine hK.out _ _ (HSb.out) ?_
      clear hK K
      try simp only [Act.put, List.setIfInBounds_toArray, List.set_cons_zero, List.set_cons_succ]
      refine heldT_one (i := 26) (o := ⟨some 127, .call _, _, _, _, _⟩) rfl (by kernel_rfl) (by decide) (fun K hK => ?_)
      go_simp
      refine (HA1.out _ lq Aq cq HQ.out.1 HQ.out.2 HBb.out).mono ?_
      rintro e wc ⟨rfl, hb1⟩
      have HBc := Lib.hid (bthen HBb.out hb1)
      have HSc := Lib.hid (HSO.out _ (HTf.out.1.on HBc.out))
      clear hb1
      go_wp2_with fail
      refine hK.out _ _ (HSc.out) ?_
      clear hK K
      try simp only [Act.put, List.setIfInBounds_toArray, List.set_cons_zero, List.set_cons_succ]
      refine heldT_take (i := 27) (oi := ⟨some 128, .pick _ _ _, _, _, _, _⟩) (v := ?vyb25) rfl (by kernel_rfl) (by decide) (by kernel_rfl) (by kernel_rfl) (fun _ _ _ h => h) (Or.inl ⟨by rfl, ?hyyb25⟩) HSc.out ?restyb25
      case hyyb25 =>
        intro w hSw
        obtain ⟨⟨ha0, ha1⟩, ⟨hb0, hb1, hb2⟩, ⟨hc0, hc1, hc2⟩, ⟨hd0, hd1, hd2⟩, ⟨he0, he1⟩⟩ := hSw
        go_simp
        try with_reducible rfl
      try simp only [Act.put, List.setIfInBounds_toArray, List.set_cons_zero, List.set_cons_succ]
      refine heldT_take (i := 28) (oi := ⟨some 129, .move _, _, _, _, _⟩) (v := ?vyb26) rfl (by kernel_rfl) (by decide) (by kernel_rfl) (by kernel_rfl) (fun _ _ _ h => h) (Or.inl ⟨by rfl, ?hyyb26⟩) HSc.out ?restyb26
      case hyyb26 =>
        intro w hSw
        obtain ⟨⟨ha0, ha1⟩, ⟨hb0, hb1, hb2⟩, ⟨hc0, hc1, hc2⟩, ⟨hd0, hd1, hd2⟩, ⟨he0, he1⟩⟩ := hSw
        go_simp
        try with_reducible rfl
      try simp only [Act.put, List.setIfInBounds_toArray, List.set_cons_zero, List.set_cons_succ]
      refine heldT_take (i := 29) (oi := ⟨some 130, .load _ _, _, _, _, _⟩) (v := ?vyb27) rfl (by kernel_rfl) (by decide) (by kernel_rfl) (by kernel_rfl) (fun _ _ _ h => h) (Or.inl ⟨by rfl, ?hyyb27⟩) HSc.out ?restyb27
      case hyyb27 =>
        intro w hSw
        obtain ⟨⟨ha0, ha1⟩, ⟨hb0, hb1, hb2⟩, ⟨hc0, hc1, hc2⟩, ⟨hd0, hd1, hd2⟩, ⟨he0, he1⟩⟩ := hSw
        go_simp
        try with_reducible rfl
      try simp only [Act.put, List.setIfInBounds_toArray, List.set_cons_zero, List.set_cons_succ]
      refine heldT_take (i := 30) (oi := ⟨some 131, .load _ _, _, _, _, _⟩) (v := ?vyb28) rfl (by kernel_rfl) (by decide) (by kernel_rfl) (by kernel_rfl) (fun _ _ _ h => h) (Or.inl ⟨by rfl, ?hyyb28⟩) HSc.out ?restyb28
      case hyyb28 =>
        intro w hSw
        obtain ⟨⟨ha0, ha1⟩, ⟨hb0, hb1, hb2⟩, ⟨hc0, hc1, hc2⟩, ⟨hd0, hd1, hd2⟩, ⟨he0, he1⟩⟩ := hSw
        go_simp
        try with_reducible rfl
      try simp only [Act.put, List.setIfInBounds_toArray, List.set_cons_zero, List.set_cons_succ]
      refine heldT_take (i := 32) (oi := ⟨some 133, .load _ _, _, _, _, _⟩) (v := ?vyb29) rfl (by kernel_rfl) (by decide) (by kernel_rfl) (by kernel_rfl) (fun _ _ _ h => h) (Or.inl ⟨by rfl, ?hyyb29⟩) HSc.out ?restyb29
      case hyyb29 =>
        intro w hSw
        obtain ⟨⟨ha0, ha1⟩, ⟨hb0, hb1, hb2⟩, ⟨hc0, hc1, hc2⟩, ⟨hd0, hd1, hd2⟩, ⟨he0, he1⟩⟩ := hSw
        go_simp
        try with_reducible rfl
      try simp only [Act.put, List.setIfInBounds_toArray, List.set_cons_zero, List.set_cons_succ]
      refine heldT_take (i := 33) (oi := ⟨some 134, .load _ _, _, _, _, _⟩) (v := ?vyb30) rfl (by kernel_rfl) (by decide) (by kernel_rfl) (by kernel_rfl) (fun _ _ _ h => h) (Or.inl ⟨by rfl, ?hyyb30⟩) HSc.out ?restyb30
      case hyyb30 =>
        intro w hSw
        obtain ⟨⟨ha0, ha1⟩, ⟨hb0, hb1, hb2⟩, ⟨hc0, hc1, hc2⟩, ⟨hd0, hd1, hd2⟩, ⟨he0, he1⟩⟩ := hSw
        go_simp
        try with_reducible rfl
      try simp only [Act.put, List.setIfInBounds_toArray, List.set_cons_zero, List.set_cons_succ]
      refine heldT_one (i := 31) (o := ⟨some 132, .call _, _, _, _, _⟩) rfl (by kernel_rfl) (by decide) (fun K hK => ?_)
      go_simp
      refine (HSt.out _ HBc.out).mono ?_
      rintro e wd ⟨ls, As, cs, rfl, hm1, hi1, hb1⟩
      have HBd := Lib.hid (bthen HBc.out hb1)
      have HSd := Lib.hid (HSO.out _ (HTf.out.1.on HBd.out))
      have HP := Lib.hid (And.intro hm1 hi1)
      clear hm1 hi1 hb1
      go_wp2_with fail
      refine hK.out _ _ (HSd.out) ?_
      clear hK K
      try simp only [Act.put, List.setIfInBounds_toArray, List.set_cons_zero, List.set_cons_succ]
      refine heldT_one (i := 34) (o := ⟨some 135, .call _, _, _, _, _⟩) rfl (by kernel_rfl) (by decide) (fun K hK => ?_)
      go_simp
      refine (HRs.out _ HBd.out).mono ?_
      rintro e we ⟨lp, Ap, cp, rfl, hm1, hi1, hb1⟩
      have HBe := Lib.hid (bthen HBd.out hb1)
      have HSe := Lib.hid (HSO.out _ (HTf.out.1.on HBe.out))
      have HP2 := Lib.hid (And.intro (HP.out.2.on hb1) (And.intro hm1 hi1))
      clear hm1 hi1 hb1
      go_wp2_with fail
      refine hK.out _ _ (HSe.out) ?_
      clear hK K
      try simp only [Act.put, List.setIfInBounds_toArray, List.set_cons_zero, List.set_cons_succ]
      refine heldT_one (i := 35) (o := ⟨some 136, .call _, _, _, _, _⟩) rfl (by kernel_rfl) (by decide) (fun K hK => ?_)
      go_simp
      refine (HA2.out _ ls As cs lp Ap cp HP.out.1 HP2.out.2.1 HP2.out.1 HP2.out.2.2).mono ?_
      rintro e wf ⟨rfl, hb1⟩
      have HBf2 := Lib.hid (bthen HBe.out hb1)
      have HSf := Lib.hid (HSO.out _ (HTf.out.1.on HBf2.out))
      clear hb1
      go_wp2_with fail
      refine hK.out _ _ (HSf.out) ?_
      clear hK K
      try simp only [Act.put, List.setIfInBounds_toArray, List.set_cons_zero, List.set_cons_succ]
      refine heldT_take (i := 36) (oi := ⟨some 137, .pick _ _ _, _, _, _, _⟩) (v := ?vyb31) rfl (by kernel_rfl) (by decide) (by kernel_rfl) (by kernel_rfl) (fun _ _ _ h => h) (Or.inl ⟨by rfl, ?hyyb31⟩) HSf.out ?restyb31
      case hyyb31 =>
        intro w hSw
        obtain ⟨⟨ha0, ha1⟩, ⟨hb0, hb1, hb2⟩, ⟨hc0, hc1, hc2⟩, ⟨hd0, hd1, hd2⟩, ⟨he0, he1⟩⟩ := hSw
        go_simp
        try with_reducible rfl
      try simp only [Act.put, List.setIfInBounds_toArray, List.set_cons_zero, List.set_cons_succ]
      refine heldT_take (i := 37) (oi := ⟨some 138, .move _, _, _, _, _⟩) (v := ?vyb32) rfl (by kernel_rfl) (by decide) (by kernel_rfl) (by kernel_rfl) (fun _ _ _ h => h) (Or.inl ⟨by rfl, ?hyyb32⟩) HSf.out ?restyb32
      case hyyb32 =>
        intro w hSw
        obtain ⟨⟨ha0, ha1⟩, ⟨hb0, hb1, hb2⟩, ⟨hc0, hc1, hc2⟩, ⟨hd0, hd1, hd2⟩, ⟨he0, he1⟩⟩ := hSw
        go_simp
        try with_reducible rfl
      try simp only [Act.put, List.setIfInBounds_toArray, List.set_cons_zero, List.set_cons_succ]
      refine heldT_take (i := 38) (oi := ⟨some 139, .load _ _, _, _, _, _⟩) (v := ?vyb33) rfl (by kernel_rfl) (by decide) (by kernel_rfl) (by kernel_rfl) (fun _ _ _ h => h) (Or.inl ⟨by rfl, ?hyyb33⟩) HSf.out ?restyb33
      case hyyb33 =>
        intro w hSw
        obtain ⟨⟨ha0, ha1⟩, ⟨hb0, hb1, hb2⟩, ⟨hc0, hc1, hc2⟩, ⟨hd0, hd1, hd2⟩, ⟨he0, he1⟩⟩ := hSw
        go_simp
        try with_reducible rfl
      try simp only [Act.put, List.setIfInBounds_toArray, List.set_cons_zero, List.set_cons_succ]
      refine heldT_take (i := 39) (oi := ⟨some 140, .move _, _, _, _, _⟩) (v := ?vyb34) rfl (by kernel_rfl) (by decide) (by kernel_rfl) (by kernel_rfl) (fun _ _ _ h => h) (Or.inl ⟨by rfl, ?hyyb34⟩) HSf.out ?restyb34
      case hyyb34 =>
        intro w hSw
        obtain ⟨⟨ha0, ha1⟩, ⟨hb0, hb1, hb2⟩, ⟨hc0, hc1, hc2⟩, ⟨hd0, hd1, hd2⟩, ⟨he0, he1⟩⟩ := hSw
        go_simp
        try with_reducible rfl
      try simp only [Act.put, List.setIfInBounds_toArray, List.set_cons_zero, List.set_cons_succ]
      refine heldT_take (i := 41) (oi := ⟨some 142, .load _ _, _, _, _, _⟩) (v := ?vyb35) rfl (by kernel_rfl) (by decide) (by kernel_rfl) (by kernel_rfl) (fun _ _ _ h => h) (Or.inl ⟨by rfl, ?hyyb35⟩) HSf.out ?restyb35
      case hyyb35 =>
        intro w hSw
        obtain ⟨⟨ha0, ha1⟩, ⟨hb0, hb1, hb2⟩, ⟨hc0, hc1, hc2⟩, ⟨hd0, hd1, hd2⟩, ⟨he0, he1⟩⟩ := hSw
        go_simp
        try with_reducible rfl
      try simp only [Act.put, List.setIfInBounds_toArray, List.set_cons_zero, List.set_cons_succ]
      refine heldT_take (i := 42) (oi := ⟨some 143, .move _, _, _, _, _⟩) (v := ?vyb36) rfl (by kernel_rfl) (by decide) (by kernel_rfl) (by kernel_rfl) (fun _ _ _ h => h) (Or.inl ⟨by rfl, ?hyyb36⟩) HSf.out ?restyb36
      case hyyb36 =>
        intro w hSw
        obtain ⟨⟨ha0, ha1⟩, ⟨hb0, hb1, hb2⟩, ⟨hc0, hc1, hc2⟩, ⟨hd0, hd1, hd2⟩, ⟨he0, he1⟩⟩ := hSw
        go_simp
        try with_reducible rfl
      try simp only [Act.put, List.setIfInBounds_toArray, List.set_cons_zero, List.set_cons_succ]
      refine heldT_one (i := 40) (o := ⟨some 141, .call _, _, _, _, _⟩) rfl (by kernel_rfl) (by decide) (fun K hK => ?_)
      go_simp
      refine (HO1.out _ HBf2.out).mono ?_
      rintro e wg ⟨rfl, hb1⟩
      have HBg := Lib.hid (bthen HBf2.out hb1)
      have HSg := Lib.hid (HSO.out _ (HTf.out.1.on HBg.out))
      clear hb1
      go_wp2_with fail
      refine hK.out _ _ (HSg.out) ?_
      clear hK K
      try simp only [Act.put, List.setIfInBounds_toArray, List.set_cons_zero, List.set_cons_succ]
      refine heldT_one (i := 43) (o := ⟨some 144, .call _, _, _, _, _⟩) rfl (by kernel_rfl) (by decide) (fun K hK => ?_)
      go_simp
      refine (HO2.out _ HBg.out).mono ?_
      rintro e wh ⟨rfl, hb1⟩
      have HBh := Lib.hid (bthen HBg.out hb1)
      have HSh := Lib.hid (HSO.out _ (HTf.out.1.on HBh.out))
      clear hb1
      go_wp2_with fail
      refine hK.out _ _ (HSh.out) ?_
      clear hK K
      try simp only [Act.put, List.setIfInBounds_toArray, List.set_cons_zero, List.set_cons_succ]
      refine heldT_take (i := 44) (oi := ⟨some 145, .binOp _ _ _ _ _, _, _, _, _⟩) (v := ?vyb37) rfl (by kernel_rfl) (by decide) (by kernel_rfl) (by kernel_rfl) (fun _ _ _ h => h) (Or.inl ⟨by rfl, ?hyyb37⟩) HSh.out ?restyb37
      case hyyb37 =>
        intro w hSw
        obtain ⟨⟨ha0, ha1⟩, ⟨hb0, hb1, hb2⟩, ⟨hc0, hc1, hc2⟩, ⟨hd0, hd1, hd2⟩, ⟨he0, he1⟩⟩ := hSw
        go_simp
        try with_reducible rfl
      try simp only [Act.put, List.setIfInBounds_toArray, List.set_cons_zero, List.set_cons_succ]
      refine heldT_take (i := 45) (oi := ⟨some 146, .pick _ _ _, _, _, _, _⟩) (v := ?vyb38) rfl (by kernel_rfl) (by decide) (by kernel_rfl) (by kernel_rfl) (fun _ _ _ h => h) (Or.inl ⟨by rfl, ?hyyb38⟩) HSh.out ?restyb38
      case hyyb38 =>
        intro w hSw
        obtain ⟨⟨ha0, ha1⟩, ⟨hb0, hb1, hb2⟩, ⟨hc0, hc1, hc2⟩, ⟨hd0, hd1, hd2⟩, ⟨he0, he1⟩⟩ := hSw
        go_simp
        try with_reducible rfl
      try simp only [Act.put, List.setIfInBounds_toArray, List.set_cons_zero, List.set_cons_succ]
      refine heldT_done (by kernel_rfl) ?_
      go_wp2
      go_ret
      exact ⟨rfl, bthen HTf.out.1.2 HBh.out⟩
end Go.Proofs.Ytiljjgohmjimdaa

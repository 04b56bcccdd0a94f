/-
  Layer 9: the law TableSets.
-/
import Derived.Test.YtcligeajgbibnaaTbV
namespace Go.Proofs.Ytcligeajgbibnaa
open Go.RowKit Leaf Tbl
set_option linter.unusedVariables false

namespace Tbl
theorem getD_set_self {D : List Bool} {N : Nat} (h : N < D.length) : (D.set N true).getD N false = true := by
  rw [List.getD_eq_getElem?_getD, List.getElem?_set_self h]
  rfl
theorem getD_set_other {D : List Bool} {N m : Nat} (h : N ≠ m) : (D.set N true).getD m false = D.getD m false := by
  rw [List.getD_eq_getElem?_getD, List.getElem?_set_ne h, ← List.getD_eq_getElem?_getD]
theorem ins_low {D : List Bool} {N : Nat} : ∀ m, m ≤ N → (idxs D m).foldl (insS N) ([], false) = (idxs D m, false) ∧ idxs (D.set N true) m = idxs D m
  | 0, _ => ⟨rfl, rfl⟩
  | m + 1, h => by
    obtain ⟨h1, h2⟩ := ins_low (D := D) (N := N) m (by omega)
    cases hd : D.getD m false
    · rw [idxs_no hd, idxs_no (ds := D.set N true) (k := m) (by rw [getD_set_other (N := N) (m := m) (by omega)]; exact hd)]
      exact ⟨h1, h2⟩
    · rw [idxs_yes hd, idxs_yes (ds := D.set N true) (k := m) (by rw [getD_set_other (N := N) (m := m) (by omega)]; exact hd), List.foldl_append, h1, h2]
      refine ⟨?_, rfl⟩
      simp only [List.foldl_cons, List.foldl_nil]
      exact insS_c (by omega)
theorem ins_high {D : List Bool} {N : Nat} (hN : N < D.length) : ∀ m, N < m → (idxs D m).foldl (insS N) ([], false) = (idxs (D.set N true) m, true) ∨ ∃ L, (idxs D m).foldl (insS N) ([], false) = (L, false) ∧ L ++ [(N : Int)] = idxs (D.set N true) m
  | 0, h => by omega
  | m + 1, h => by
    rcases Nat.lt_or_ge N m with h1 | h1
    · have ih := ins_high hN m h1
      cases hd : D.getD m false
      · rw [idxs_no hd, idxs_no (ds := D.set N true) (k := m) (by rw [getD_set_other (N := N) (m := m) (by omega)]; exact hd)]
        exact ih
      · rw [idxs_yes hd, idxs_yes (ds := D.set N true) (k := m) (by rw [getD_set_other (N := N) (m := m) (by omega)]; exact hd), List.foldl_append]
        left
        rcases ih with h2 | ⟨L, h2, h3⟩
        · rw [h2]
          simp only [List.foldl_cons, List.foldl_nil]
          exact insS_d (by omega)
        · rw [h2, ← h3]
          simp only [List.foldl_cons, List.foldl_nil]
          exact insS_a (by omega) (by omega)
    · obtain rfl : N = m := by omega
      obtain ⟨h2, h3⟩ := ins_low (D := D) N (Nat.le_refl N)
      cases hd : D.getD N false
      · right
        rw [idxs_no hd, idxs_yes (getD_set_self hN), h3]
        exact ⟨_, h2, rfl⟩
      · left
        rw [idxs_yes hd, idxs_yes (getD_set_self hN), h3, List.foldl_append, h2]
        simp only [List.foldl_cons, List.foldl_nil]
        exact insS_b
theorem insK_idxs {D : List Bool} {N P : Nat} (hP : D.length = P) (hN : N < P) : insK N (idxs D P) = idxs (D.set N true) P := by
  have e : insT N (idxs D P) (idxs D P).length = (idxs D P).foldl (insS N) ([], false) := by
    unfold insT
    rw [List.take_of_length_le (Nat.le_refl _)]
  unfold insK
  rw [e]
  rcases ins_high (hP.symm ▸ hN) P hN with h | ⟨L, h1, h2⟩
  · rw [h]
    rfl
  · rw [h1, ← h2]
    rfl
def stC (n : Nat) (s : List Int × List Bool) (t : Pt) : List Int × List Bool :=
  (putY n s.1 t.b t.p, putD n s.1 (if t.c = true then List.replicate (pages n) false else s.2) t.b t.p)
def rnC (n : Nat) (ts : List Pt) : List Int × List Bool := ts.foldl (stC n) (List.replicate (10 * pages n) 0, List.replicate (pages n) false)
theorem rnC_snoc {n : Nat} {ts : List Pt} {k : Nat} {t : Pt} (h : ts[k]? = some t) : rnC n (ts.take (k + 1)) = stC n (rnC n (ts.take k)) t := by
  obtain ⟨hk, rfl⟩ := List.getElem?_eq_some_iff.1 h
  unfold rnC
  rw [List.take_succ_eq_append_getElem hk, List.foldl_append]
  rfl
/-- what Do makes of places and dirty leaves is what the table's Clean and Set make -/
theorem do_x {n : Nat} {Y : List Int} (hY : n ≤ Y.length) (t : Pt) : doX (Y.take n) t = (putY n Y t.b t.p).take n ∧ doW (Y.take n) t = getT n Y t.b := by
  have hl : (Y.take n).length = n := by rw [List.length_take]; omega
  unfold doX doW putY getT
  rw [hl]
  by_cases hb : hasB n t.b = true
  · obtain ⟨j, hj, hjn⟩ := hasB_iff.1 hb
    rw [if_pos hb, if_pos hb, if_pos hb, if_pos hb, hj, Int.toNat_natCast]
    refine ⟨?_, ?_⟩
    · rw [List.take_set]
    · rw [List.getD_eq_getElem?_getD, List.getElem?_take, if_pos hjn, ← List.getD_eq_getElem?_getD]
  · rw [if_neg hb, if_neg hb, if_neg hb, if_neg hb]
    exact ⟨rfl, rfl⟩
theorem do_d {n : Nat} {Y : List Int} {D : List Bool} (hY : n ≤ Y.length) (hD : D.length = pages n) (t : Pt) :
    doD (Y.take n) (idxs D (pages n)) t = idxs (putD n Y (if t.c = true then List.replicate (pages n) false else D) t.b t.p) (pages n) := by
  have hl : (Y.take n).length = n := by rw [List.length_take]; omega
  have hc : cleanD t.c (idxs D (pages n)) = idxs (if t.c = true then List.replicate (pages n) false else D) (pages n) := by
    unfold cleanD
    by_cases h : t.c = true
    · rw [if_pos h, if_pos h, idxs_clean]
    · rw [if_neg h, if_neg h]
  have hDl : (if t.c = true then List.replicate (pages n) false else D).length = pages n := by split <;> simp [hD]
  generalize (if t.c = true then List.replicate (pages n) false else D) = D0 at *
  unfold doD putD
  rw [hl, hc]
  by_cases hb : hasB n t.b = true
  · obtain ⟨j, hj, hjn⟩ := hasB_iff.1 hb
    have hg : (Y.take n).getD j 0 = getT n Y t.b := by
      rw [hj, getT_nat hjn, List.getD_eq_getElem?_getD, List.getElem?_take, if_pos hjn, ← List.getD_eq_getElem?_getD]
    have hq : j / 10 < pages n := by unfold pages; omega
    by_cases he : getT n Y t.b = t.p
    · rw [if_neg (by rw [hj, Int.toNat_natCast, hg]; exact fun h => h.2 he), if_neg (fun h => h.2 he)]
    · rw [if_pos ⟨hb, by rw [hj, Int.toNat_natCast, hg]; exact he⟩, if_pos ⟨hb, he⟩]
      rw [hj, Int.toNat_natCast, show ((j : Int) / 10) = ((j / 10 : Nat) : Int) by omega]
      exact insK_idxs hDl hq
  · rw [if_neg (fun h => hb h.1), if_neg (fun h => hb h.1)]
end Tbl
/-- a row that came in or was made, in no block of T -/
def RdO (w : World) (T : Nat → Prop) (A : Option Addr) (xs : List Value) : Prop := Rd w w.heap.size A xs ∧ (xs ≠ [] → ∀ ad, A = some ad → ¬ T ad.block)
section
variable {w w' : World} {T : Nat → Prop} {A : Option Addr} {xs : List Value}
theorem RdO.fr (h : RdO w T A xs) (f : Fr T w w') : RdO w' T A xs := by
  refine ⟨fun hn => ?_, h.2⟩
  obtain ⟨ad, rfl, hb, hc⟩ := h.1 hn
  refine ⟨ad, rfl, Nat.lt_of_lt_of_le hb f.size, fun j u hu => ?_⟩
  rw [f.cell (by rw [addr_add_block]; exact hb) (by rw [addr_add_block]; exact h.2 hn ad rfl)]
  exact hc j u hu
theorem RdO.on (h : RdO w T A xs) (hb : Below w.heap.size w w') : RdO w' T A xs := ⟨(h.1.below hb).more hb.size, h.2⟩
theorem RdO.drewN (h : RdO w T A xs) (q : Nat) : RdO (w.drewN q) T A xs := h
theorem RdO.out {A1 : Option Addr} {zs zs' : List Int} (h : RdO w T A (is zs)) (o : OutR w w' A zs A1 zs') (hT : ∀ k, T k → k < w.heap.size) : RdO w' T A1 (is zs') := by
  refine ⟨o.1, fun hn ad he => ?_⟩
  rcases o.2 with ⟨rfl, rfl⟩ | rfl | ⟨ad2, h2, h3⟩
  · exact h.2 hn ad he
  · exact absurd rfl hn
  · obtain rfl : ad = ad2 := by rw [he] at h2; injection h2
    exact fun ht => absurd (hT _ ht) (by omega)
end
/-- the blocks of a table -/
abbrev TbD (d g h : Nat) : Nat → Prop := fun x => x = d ∨ x = g ∨ x = h
set_option maxRecDepth 100000 in
set_option maxHeartbeats 4000000 in
theorem tblaw_sets (n : Nat) (A : Option Addr) (len cap : Nat) (ts : List Pt) (block : Int) (w : World) (hn : n ≤ 255) (hm : len ≤ maxLen) (hts : ts.length = len) (hr : Rd w w.heap.size A (pls ts)) :
    Calls Try.prog 3 #[.int .u8 n, .slice A len cap, .int .i64 block] w fun e w' => e = .returned (.bool true) ∧ Below w.heap.size w w' := by
  obtain ⟨m3, hm3, hsz3⟩ := big_size (P := Try.prog) (t := 28) (s := 3) (by kernel_rfl)
  have hm30 : ¬ m3 = 0 := by omega
  have HM3 := Lib.hid hm3
  clear hm3
  have HTs := Lib.hid hts
  have HRd := Lib.hid hr
  clear hts hr
  go_enter Try.func3, Try.ntmps3
  go_wp2_with fail
  refine (awake9_any w).mono ?_
  rintro e w1 ⟨rfl, hb1⟩
  have B1 := Lib.hid hb1
  clear hb1
  by_cases h100 : 100 < len
  · go_wp2_with fail
    refine (awake9_any w1).mono ?_
    rintro e w2 ⟨rfl, hb2⟩
    have B2 := Lib.hid (bthen B1.out hb2)
    clear hb2
    go_wp2
    go_ret
    exact ⟨rfl, B2.out⟩
  have hlen : len ≤ 100 := by omega
  go_wp2_with fail
  refine (tbnew_any n w1 (by omega)).mono ?_
  rintro e w2 ⟨d, g, h, rfl, t2, hd2, hg2, hh2, hb2⟩
  have G2 : Hid (w.heap.size ≤ d ∧ w.heap.size ≤ g ∧ w.heap.size ≤ h) := Lib.hid (by have := B1.out.size; omega)
  have L2 : Hid (LSt w w2 d g h n (rnC n []).1 (rnC n []).2) := Lib.hid ⟨B1.out.trans (hb2.mono B1.out.size), t2⟩
  clear t2 hd2 hg2 hh2 hb2 B1
  have hmk := fun w' => make_ints w' n (by omega)
  generalize hZ : is (List.replicate n 0) = Z0 at hmk
  have HZ := Lib.hid hZ
  clear hZ
  go_wp2_with fail
  have L3 := Lib.hid (L2.out.on ((Below.refl w2.heap.size w2).alloc (Nat.le_refl _) (.cells Z0.toArray 3 (0, 0))))
  have X3 := Lib.hid (Box.new w2 3 Z0)
  have N3 : Hid (¬ TbD d g h w2.heap.size) := Lib.hid (by
    have h1 := L2.out.2.tb.lt; have h2 := L2.out.2.lv.lt; have h3 := L2.out.2.dt.lt
    intro hh
    rcases hh with e | e | e <;> omega)
  have hpg := pages_le L2.out.2.hn
  generalize w2.alloc (.cells Z0.toArray 3) = w3 at *
  generalize w2.heap.size = b3 at *
  clear L2 hmk
  go_loopw [8, 9, 10] (fun pv dv i wr => ∃ k : Nat, k ≤ len ∧ i = .int .i64 k ∧ LSt w wr d g h n (rnC n (ts.take k)).1 (rnC n (ts.take k)).2 ∧ (∃ AP cP, pv = .slice AP n cP ∧ RdO wr (TbD d g h) AP (is ((rnC n (ts.take k)).1.take n))) ∧ ∃ AD cD, dv = .slice AD (idxs (rnC n (ts.take k)).2 (pages n)).length cD ∧ RdO wr (TbD d g h) AD (is (idxs (rnC n (ts.take k)).2 (pages n)))) (fun _ _ i _ => len - (intOf i).toNat)
  case atStart =>
    refine ⟨0, Nat.zero_le _, rfl, L3.out, ⟨_, _, rfl, ?_, fun _ ad e => ?_⟩, none, 0, ?_, ?_⟩
    · have e : (List.replicate (10 * pages n) (0 : Int)).take n = List.replicate n 0 := by
        rw [List.take_replicate]
        congr 1
        have := pages_up n
        omega
      show Rd _ _ _ (is ((List.replicate (10 * pages n) (0 : Int)).take n))
      rw [e, HZ.out]
      exact X3.out.rd X3.out.lt
    · obtain rfl : ad = ⟨b3, 0, none⟩ := by injection e with e; exact e.symm
      exact N3.out
    · show _ = Value.slice none (idxs (List.replicate (pages n) false) (pages n)).length 0
      rw [idxs_clean]
      rfl
    · show RdO _ _ _ (is (idxs (List.replicate (pages n) false) (pages n)))
      rw [idxs_clean]
      exact ⟨Rd.empty, fun h => absurd rfl h⟩
  case round =>
    clear L3 X3 N3
    obtain ⟨k, hk, rfl, hL, ⟨AP, cP, rfl, hP⟩, AD, cD, rfl, hD⟩ := hrel
    by_cases hlt : k < len
    · have hkl : k < ts.length := by rw [HTs.out]; exact hlt
      obtain ⟨t, ht⟩ : ∃ t, ts[k]? = some t := ⟨ts[k], by simp [hkl]⟩
      obtain ⟨ad, rfl, hadb, hcs⟩ := put_at HRd.out ht
      have HC : Hid (∀ W, Below w.heap.size w W → W.cell? (ad.add (k * m3)) = some (.int .i64 t.b) ∧ W.cell? ⟨(ad.add (k * m3)).block, (ad.add (k * m3)).off + 1, none⟩ = some (.int .i64 t.p) ∧ W.cell? ⟨(ad.add (k * m3)).block, (ad.add (k * m3)).off + 2, none⟩ = some (.bool t.c)) := Lib.hid fun W hW => by
        rw [HM3.out]
        exact hcs W (fun p hp => hW.cell hp)
      have HCl3 : Hid (∀ W, Below w.heap.size w W → ∀ j v, [Value.int .i64 t.b, .int .i64 t.p, .bool t.c][j]? = some v → W.cell? ((ad.add (k * m3)).add j) = some v) := Lib.hid fun W hW j v hv => by
        obtain ⟨p0, p1, p2⟩ := HC.out W hW
        rcases j with _ | _ | _ | j
        · have e : (ad.add (k * m3)).add 0 = ad.add (k * m3) := rfl
          rw [e, p0]
          exact hv
        · rw [show (ad.add (k * m3)).add 1 = ⟨(ad.add (k * m3)).block, (ad.add (k * m3)).off + 1, none⟩ from rfl, p1]
          exact hv
        · rw [show (ad.add (k * m3)).add 2 = ⟨(ad.add (k * m3)).block, (ad.add (k * m3)).off + 2, none⟩ from rfl, p2]
          exact hv
        · simp at hv
      have HSn0 := Lib.hid (rnC_snoc (n := n) ht)
      have hki : (k : Int) < (len : Int) := by omega
      have hyl : n ≤ (rnC n (ts.take k)).1.length := by rw [hL.2.hy]; exact pages_up n
      have HXx := Lib.hid (do_x hyl t)
      have HDd0 := Lib.hid (do_d hyl hL.2.hd t)
      have HXl : Hid (((rnC n (ts.take k)).1.take n).length = n) := Lib.hid (by rw [List.length_take]; omega)
      have HYD : Hid ((rnC n (ts.take k)).1 = (rnC n (ts.take k)).1 ∧ (rnC n (ts.take k)).2 = (rnC n (ts.take k)).2) := Lib.hid ⟨rfl, rfl⟩
      clear hcs hkl ht hadb hyl
      generalize hY : (rnC n (ts.take k)).1 = Y at *
      generalize hDD : (rnC n (ts.take k)).2 = D at *
      have HYD : Hid ((rnC n (ts.take k)).1 = Y ∧ (rnC n (ts.take k)).2 = D) := Lib.hid ⟨hY, hDD⟩
      clear hY hDD
      have HL := Lib.hid hL
      have HP := Lib.hid hP
      have HD := Lib.hid hD
      clear hL hP hD
      cases hc : t.c
      · obtain ⟨q0, q1, q2⟩ := HC.out wr HL.out.1
        rw [hc] at q2
        have HSn : Hid (rnC n (ts.take (k + 1)) = (putY n Y t.b t.p, putD n Y D t.b t.p)) := Lib.hid (by rw [HSn0.out]; unfold stC; rw [hc, HYD.out.1, HYD.out.2]; rfl)
        have HDd : Hid (doD (Y.take n) (idxs D (pages n)) t = idxs (putD n Y D t.b t.p) (pages n)) := Lib.hid (by have := HDd0.out; rw [hc] at this; exact this)
        clear HSn0 HDd0
        have hcc := Lib.hid hc
        clear hc
        have L1 := HL
        have P1 := HP
        have D1 := HD
        obtain ⟨wc, hwc⟩ : ∃ x, x = wr := ⟨wr, rfl⟩
        subst hwc
        clear HL HP HD
        go_wp2_with fail
        refine wp_region_class_tail (fun w' => LSt w w' d g h n Y D ∧ RdO w' (TbD d g h) AP (is (Y.take n)) ∧ RdO w' (TbD d g h) AD (is (idxs D (pages n)))) 11 (by kernel_rfl) (by kernel_rfl) ⟨L1.out.drew, P1.out.drewN 1, D1.out.drewN 1⟩ ?_
        intro X hX f hf hg
        have y0 := fun x => (HC.out _ (hf x).1.1).1
        have y1 := fun x => (HC.out _ (hf x).1.1).2.1
        have Hf := Lib.hid hf
        clear hf hg q0 q1 q2
        simp only [List.take_succ_cons, List.take_zero, List.drop_succ_cons, List.drop_zero]
        repeat (go_big_quiet_step (fail))
        refine wpQuiet_nil ?_
        rintro _ ⟨x, rfl⟩
        have LL := Hf.out x
        clear y0 y1 Hf
        generalize f x = W2 at LL ⊢
        clear hX
        have HL2 := Lib.hid LL
        clear LL L1 P1 D1
        go_wp2_with fail
        refine (tset_any W2 t.b t.p HL2.out.1.2).mono ?_
        rintro e w4 ⟨rfl, t4, f4⟩
        have HL4 := Lib.hid (HL2.out.1.put t4 f4 G2.out.2.1 G2.out.2.2)
        have fd : Fr (TbD d g h) W2 w4 := f4.mono (fun k _ hT => by rcases hT with e | e; exact .inr (.inl e); exact .inr (.inr e))
        have P4 := Lib.hid (HL2.out.2.1.fr fd)
        have D4 := Lib.hid (HL2.out.2.2.fr fd)
        clear t4 f4 fd HL2
        have hld := big_load Try.prog (ad.add (k * m3)) [.int .i64 t.b, .int .i64 t.p, .bool t.c] m3 HM3.out.symm w4 (HCl3.out w4 HL4.out.1)
        have HDo := Lib.hid (rdo_any AP cP (Y.take n) AD cD (idxs D (pages n)) t.b t.p t.c w4 (by rw [HXl.out]; omega) (by have := idxs_length D (pages n); omega) P4.out.1 D4.out.1)
        rw [HXl.out] at HDo
        go_wp2_with fail
        refine HDo.out.mono ?_
        rintro e w5 ⟨A1, c1, A3, c3, rfl, o1, o2, hb5⟩
        rw [HXx.out.2] at *
        rw [HXx.out.1] at o1
        rw [HDd.out] at *
        have L5 := Lib.hid (HL4.out.on hb5)
        have hT : ∀ x, TbD d g h x → x < w4.heap.size := fun x hx => by
          have h1 := HL4.out.2.tb.lt; have h2 := HL4.out.2.lv.lt; have h3 := HL4.out.2.dt.lt
          rcases hx with e | e | e <;> omega
        have P5 := Lib.hid (P4.out.out o1 hT)
        have D5 := Lib.hid (D4.out.out o2 hT)
        clear o1 o2 hb5 hT hld HL4 P4 D4 HDo
        have hww : (getT n Y t.b != getT n Y t.b) = false := by simp
        generalize getT n Y t.b = old at *
        rw [HXl.out]
        go_wp2
        go_roundw
        case rel =>
          refine ⟨k + 1, by omega, by go_num, ?_⟩
          rw [HSn.out]
          exact ⟨L5.out, ⟨_, _, rfl, P5.out⟩, _, _, rfl, D5.out⟩
        case measure => first | (simp [intOf]; done) | (simp [intOf]; omega)
      · obtain ⟨q0, q1, q2⟩ := HC.out wr HL.out.1
        rw [hc] at q2
        have HSn : Hid (rnC n (ts.take (k + 1)) = (putY n Y t.b t.p, putD n Y (List.replicate (pages n) false) t.b t.p)) := Lib.hid (by rw [HSn0.out]; unfold stC; rw [hc, HYD.out.1, HYD.out.2]; rfl)
        have HDd : Hid (doD (Y.take n) (idxs D (pages n)) t = idxs (putD n Y (List.replicate (pages n) false) t.b t.p) (pages n)) := Lib.hid (by have := HDd0.out; rw [hc] at this; exact this)
        clear HSn0 HDd0
        have hcc := Lib.hid hc
        clear hc
        have HCl := Lib.hid (tclean_any wr HL.out.2)
        go_wp2_with fail
        refine HCl.out.mono ?_
        rintro e wc ⟨rfl, tc, fc⟩
        have L1 := Lib.hid (HL.out.put tc fc G2.out.2.1 G2.out.2.2)
        have fd : Fr (TbD d g h) wr wc := fc.mono (fun k _ hT => by rcases hT with e | e; exact .inr (.inl e); exact .inr (.inr e))
        have P1 := Lib.hid (HP.out.fr fd)
        have D1 := Lib.hid (HD.out.fr fd)
        clear tc fc fd HCl HL HP HD
        go_wp2_with fail
        refine wp_region_class_tail (fun w' => LSt w w' d g h n Y (List.replicate (pages n) false) ∧ RdO w' (TbD d g h) AP (is (Y.take n)) ∧ RdO w' (TbD d g h) AD (is (idxs D (pages n)))) 11 (by kernel_rfl) (by kernel_rfl) ⟨L1.out.drew, P1.out.drewN 1, D1.out.drewN 1⟩ ?_
        intro X hX f hf hg
        have y0 := fun x => (HC.out _ (hf x).1.1).1
        have y1 := fun x => (HC.out _ (hf x).1.1).2.1
        have Hf := Lib.hid hf
        clear hf hg q0 q1 q2
        simp only [List.take_succ_cons, List.take_zero, List.drop_succ_cons, List.drop_zero]
        repeat (go_big_quiet_step (fail))
        refine wpQuiet_nil ?_
        rintro _ ⟨x, rfl⟩
        have LL := Hf.out x
        clear y0 y1 Hf
        generalize f x = W2 at LL ⊢
        clear hX
        have HL2 := Lib.hid LL
        clear LL L1 P1 D1
        go_wp2_with fail
        refine (tset_any W2 t.b t.p HL2.out.1.2).mono ?_
        rintro e w4 ⟨rfl, t4, f4⟩
        have HL4 := Lib.hid (HL2.out.1.put t4 f4 G2.out.2.1 G2.out.2.2)
        have fd : Fr (TbD d g h) W2 w4 := f4.mono (fun k _ hT => by rcases hT with e | e; exact .inr (.inl e); exact .inr (.inr e))
        have P4 := Lib.hid (HL2.out.2.1.fr fd)
        have D4 := Lib.hid (HL2.out.2.2.fr fd)
        clear t4 f4 fd HL2
        have hld := big_load Try.prog (ad.add (k * m3)) [.int .i64 t.b, .int .i64 t.p, .bool t.c] m3 HM3.out.symm w4 (HCl3.out w4 HL4.out.1)
        have HDo := Lib.hid (rdo_any AP cP (Y.take n) AD cD (idxs D (pages n)) t.b t.p t.c w4 (by rw [HXl.out]; omega) (by have := idxs_length D (pages n); omega) P4.out.1 D4.out.1)
        rw [HXl.out] at HDo
        go_wp2_with fail
        refine HDo.out.mono ?_
        rintro e w5 ⟨A1, c1, A3, c3, rfl, o1, o2, hb5⟩
        rw [HXx.out.2] at *
        rw [HXx.out.1] at o1
        rw [HDd.out] at *
        have L5 := Lib.hid (HL4.out.on hb5)
        have hT : ∀ x, TbD d g h x → x < w4.heap.size := fun x hx => by
          have h1 := HL4.out.2.tb.lt; have h2 := HL4.out.2.lv.lt; have h3 := HL4.out.2.dt.lt
          rcases hx with e | e | e <;> omega
        have P5 := Lib.hid (P4.out.out o1 hT)
        have D5 := Lib.hid (D4.out.out o2 hT)
        clear o1 o2 hb5 hT hld HL4 P4 D4 HDo
        have hww : (getT n Y t.b != getT n Y t.b) = false := by simp
        generalize getT n Y t.b = old at *
        rw [HXl.out]
        go_wp2
        go_roundw
        case rel =>
          refine ⟨k + 1, by omega, by go_num, ?_⟩
          rw [HSn.out]
          exact ⟨L5.out, ⟨_, _, rfl, P5.out⟩, _, _, rfl, D5.out⟩
        case measure => first | (simp [intOf]; done) | (simp [intOf]; omega)
    · obtain rfl : len = k := by omega
      have htk : ts.take len = ts := List.take_of_length_le (by rw [HTs.out]; exact Nat.le_refl _)
      rw [htk] at hL hP hD
      rw [htk]
      clear htk
      have HHY := Lib.hid hL.2.hy
      have HHD := Lib.hid hL.2.hd
      have hyl : n ≤ (rnC n ts).1.length := by rw [hL.2.hy]; exact pages_up n
      have HXl : Hid (((rnC n ts).1.take n).length = n) := Lib.hid (by rw [List.length_take]; omega)
      have HL := Lib.hid hL
      have HP := Lib.hid hP
      have HD := Lib.hid hD
      have HGet : Hid (∀ j, j < n → ((rnC n ts).1.take n).getD j 0 = (rnC n ts).1.getD j 0) := Lib.hid fun j hj => by
        rw [List.getD_eq_getElem?_getD, List.getElem?_take, if_pos hj, ← List.getD_eq_getElem?_getD]
      clear hL hP hD hyl
      generalize (rnC n ts).1 = Y at *
      generalize (rnC n ts).2 = D at *
      go_wp2_with fail
      go_loopw [15, 16] (fun c i wr' => ∃ j : Nat, j ≤ n ∧ i = .int .i64 j ∧ c = .int .i64 (cntT Y j : Int) ∧ wr = wr') (fun _ i _ => n - (intOf i).toNat)
      case atStart => exact ⟨0, Nat.zero_le _, rfl, rfl, rfl⟩
      case round =>
        obtain ⟨j, hj, rfl, rfl, rfl⟩ := hrel
        have hcl := cntT_le Y j
        by_cases hjn : j < n
        · obtain ⟨ad, rfl, _, hcell⟩ := HP.out.1.at (is_get (k := j) (by rw [HXl.out]; exact hjn))
          rw [HGet.out j hjn] at hcell
          have hji : (j : Int) < (n : Int) := by omega
          by_cases hz : Y.getD j 0 = 0
          · have HC := Lib.hid (cntT_no hz)
            rw [hz] at hcell
            clear hz
            generalize cntT Y j = cv at *
            go_wp2
            go_roundw
            case rel => exact ⟨j + 1, by omega, by go_num, by rw [HC.out], by first | rfl | trivial⟩
            case measure => simp [intOf]; omega
          · have HC := Lib.hid (cntT_yes hz)
            have hv : (Y.getD j 0 != 0) = true := by simpa using hz
            have hv2 : ¬ Y.getD j 0 = 0 := hz
            clear hz
            generalize Y.getD j 0 = x at *
            generalize cntT Y j = cv at *
            go_wp2
            go_roundw
            case rel => exact ⟨j + 1, by omega, by go_num, by rw [HC.out]; go_num, by first | rfl | trivial⟩
            case measure => simp [intOf]; omega
        · obtain rfl : j = n := by omega
          generalize hcv : cntT Y j = cv at *
          have HCV := Lib.hid hcv
          clear hcv
          cases hh : hasB j block
          · have HG0 := Lib.hid (getT_no (ys := Y) hh)
            have hblk : block < 0 ∨ (0 ≤ block ∧ (j : Int) ≤ block) := by
              rcases (show block < 0 ∨ (0 ≤ block ∧ (j : Int) ≤ block) ∨ (0 ≤ block ∧ block < (j : Int)) by omega) with h | h | h
              · exact .inl h
              · exact .inr h
              · rw [hasB_yes h.1 h.2] at hh; cases hh
            clear hh
            rcases hblk with k0 | ⟨k0, k1⟩
            · have HPl := Lib.hid (tplaces_any wr HL.out.2)
              go_wp2_with fail
              refine HPl.out.mono ?_
              rintro e w4 ⟨b4, rfl, x4, hb4, hbl4⟩
              have L4 := Lib.hid (HL.out.on hbl4)
              have P4 := Lib.hid (HP.out.on hbl4)
              have D4 := Lib.hid (HD.out.on hbl4)
              have X4 := Lib.hid x4
              clear x4 hb4 hbl4 HPl HL HP HD
              go_wp2_with fail
              refine (isame_any (some ⟨b4, 0, none⟩) AP j j j cP w4 (by unfold maxLen; omega) (by unfold maxLen; omega) (Y.take j) (Y.take j) HXl.out HXl.out w4.heap.size (X4.out.rd X4.out.lt) P4.out.1).mono ?_
              rw [beq_self_eq_true]
              rintro e w5 ⟨rfl, q5, rfl⟩
              have L5 := Lib.hid (L4.out.drewN q5)
              have D5 := Lib.hid (D4.out.drewN q5)
              clear L4 P4 D4 X4
              generalize w4.drewN q5 = w5 at *
              have HDr := Lib.hid (tdirty_any w5 L5.out.2)
              have hil := idxs_length D (pages j)
              generalize idxs D (pages j) = I at *
              go_wp2_with fail
              refine HDr.out.mono ?_
              rintro e w6 ⟨V6, rfl, hown6, hb6⟩
              obtain ⟨A6, c6, rfl⟩ := own_slice hown6
              have L6 := Lib.hid (L5.out.on hb6)
              have D6 := Lib.hid (D5.out.on hb6)
              have O6 := Lib.hid hown6
              clear hown6 hb6 HDr L5 D5
              generalize hIl : I.length = il at *
              have HIl := Lib.hid hIl
              clear hIl
              go_wp2_with fail
              refine (isame_any A6 AD il c6 il cD w6 (by unfold maxLen; omega) (by unfold maxLen; omega) I I HIl.out HIl.out w6.heap.size (Rd.own O6.out) D6.out.1).mono ?_
              rw [beq_self_eq_true]
              rintro e w7 ⟨rfl, q7, rfl⟩
              have L7 := Lib.hid (L6.out.drewN q7)
              clear L6 D6 O6
              generalize w6.drewN q7 = w7 at *
              have HCt := Lib.hid (tcount_any w7 L7.out.2)
              rw [HCV.out] at HCt
              have hcc : ((cv : Int) == (cv : Int)) = true := by simp
              go_wp2_with fail
              refine HCt.out.mono ?_
              rintro e w8 ⟨rfl, rfl⟩
              have HGt := Lib.hid (tget_any w7 block L7.out.2)
              rw [HG0.out] at HGt
              go_wp2_with fail
              refine HGt.out.mono ?_
              rintro e w8 ⟨rfl, rfl⟩
              go_wp2
              go_ret
              exact ⟨by first | rfl | exact ret_bool (by simp), L7.out.1⟩
            · have HPl := Lib.hid (tplaces_any wr HL.out.2)
              go_wp2_with fail
              refine HPl.out.mono ?_
              rintro e w4 ⟨b4, rfl, x4, hb4, hbl4⟩
              have L4 := Lib.hid (HL.out.on hbl4)
              have P4 := Lib.hid (HP.out.on hbl4)
              have D4 := Lib.hid (HD.out.on hbl4)
              have X4 := Lib.hid x4
              clear x4 hb4 hbl4 HPl HL HP HD
              go_wp2_with fail
              refine (isame_any (some ⟨b4, 0, none⟩) AP j j j cP w4 (by unfold maxLen; omega) (by unfold maxLen; omega) (Y.take j) (Y.take j) HXl.out HXl.out w4.heap.size (X4.out.rd X4.out.lt) P4.out.1).mono ?_
              rw [beq_self_eq_true]
              rintro e w5 ⟨rfl, q5, rfl⟩
              have L5 := Lib.hid (L4.out.drewN q5)
              have D5 := Lib.hid (D4.out.drewN q5)
              clear L4 P4 D4 X4
              generalize w4.drewN q5 = w5 at *
              have HDr := Lib.hid (tdirty_any w5 L5.out.2)
              have hil := idxs_length D (pages j)
              generalize idxs D (pages j) = I at *
              go_wp2_with fail
              refine HDr.out.mono ?_
              rintro e w6 ⟨V6, rfl, hown6, hb6⟩
              obtain ⟨A6, c6, rfl⟩ := own_slice hown6
              have L6 := Lib.hid (L5.out.on hb6)
              have D6 := Lib.hid (D5.out.on hb6)
              have O6 := Lib.hid hown6
              clear hown6 hb6 HDr L5 D5
              generalize hIl : I.length = il at *
              have HIl := Lib.hid hIl
              clear hIl
              go_wp2_with fail
              refine (isame_any A6 AD il c6 il cD w6 (by unfold maxLen; omega) (by unfold maxLen; omega) I I HIl.out HIl.out w6.heap.size (Rd.own O6.out) D6.out.1).mono ?_
              rw [beq_self_eq_true]
              rintro e w7 ⟨rfl, q7, rfl⟩
              have L7 := Lib.hid (L6.out.drewN q7)
              clear L6 D6 O6
              generalize w6.drewN q7 = w7 at *
              have HCt := Lib.hid (tcount_any w7 L7.out.2)
              rw [HCV.out] at HCt
              have hcc : ((cv : Int) == (cv : Int)) = true := by simp
              go_wp2_with fail
              refine HCt.out.mono ?_
              rintro e w8 ⟨rfl, rfl⟩
              have HGt := Lib.hid (tget_any w7 block L7.out.2)
              rw [HG0.out] at HGt
              go_wp2_with fail
              refine HGt.out.mono ?_
              rintro e w8 ⟨rfl, rfl⟩
              go_wp2
              go_ret
              exact ⟨by first | rfl | exact ret_bool (by simp), L7.out.1⟩
          · obtain ⟨q, rfl, hq⟩ := hasB_iff.1 hh
            have HG0 := Lib.hid (getT_nat (ys := Y) hq)
            obtain ⟨ad, rfl, _, hcell⟩ := HP.out.1.at (is_get (k := q) (by rw [HXl.out]; exact hq))
            rw [HGet.out q hq, ← HG0.out] at hcell
            have hqi : (q : Int) < (j : Int) := by omega
            clear hh
            have HPl := Lib.hid (tplaces_any wr HL.out.2)
            go_wp2_with fail
            refine HPl.out.mono ?_
            rintro e w4 ⟨b4, rfl, x4, hb4, hbl4⟩
            have L4 := Lib.hid (HL.out.on hbl4)
            have P4 := Lib.hid (HP.out.on hbl4)
            have D4 := Lib.hid (HD.out.on hbl4)
            have X4 := Lib.hid x4
            clear x4 hb4 hbl4 HPl HL HP HD
            go_wp2_with fail
            refine (isame_any (some ⟨b4, 0, none⟩) (some ad) j j j cP w4 (by unfold maxLen; omega) (by unfold maxLen; omega) (Y.take j) (Y.take j) HXl.out HXl.out w4.heap.size (X4.out.rd X4.out.lt) P4.out.1).mono ?_
            rw [beq_self_eq_true]
            rintro e w5 ⟨rfl, q5, rfl⟩
            have L5 := Lib.hid (L4.out.drewN q5)
            have D5 := Lib.hid (D4.out.drewN q5)
            clear L4 P4 D4 X4
            generalize w4.drewN q5 = w5 at *
            have HDr := Lib.hid (tdirty_any w5 L5.out.2)
            have hil := idxs_length D (pages j)
            generalize idxs D (pages j) = I at *
            go_wp2_with fail
            refine HDr.out.mono ?_
            rintro e w6 ⟨V6, rfl, hown6, hb6⟩
            obtain ⟨A6, c6, rfl⟩ := own_slice hown6
            have L6 := Lib.hid (L5.out.on hb6)
            have D6 := Lib.hid (D5.out.on hb6)
            have O6 := Lib.hid hown6
            clear hown6 hb6 HDr L5 D5
            generalize hIl : I.length = il at *
            have HIl := Lib.hid hIl
            clear hIl
            go_wp2_with fail
            refine (isame_any A6 AD il c6 il cD w6 (by unfold maxLen; omega) (by unfold maxLen; omega) I I HIl.out HIl.out w6.heap.size (Rd.own O6.out) D6.out.1).mono ?_
            rw [beq_self_eq_true]
            rintro e w7 ⟨rfl, q7, rfl⟩
            have L7 := Lib.hid (L6.out.drewN q7)
            clear L6 D6 O6
            generalize w6.drewN q7 = w7 at *
            have HCt := Lib.hid (tcount_any w7 L7.out.2)
            rw [HCV.out] at HCt
            have hcc : ((cv : Int) == (cv : Int)) = true := by simp
            go_wp2_with fail
            refine HCt.out.mono ?_
            rintro e w8 ⟨rfl, rfl⟩
            have HGt := Lib.hid (tget_any w7 (q : Int) L7.out.2)
            generalize getT j Y (q : Int) = gv at *
            go_wp2_with fail
            refine HGt.out.mono ?_
            rintro e w8 ⟨rfl, rfl⟩
            go_wp2
            go_ret
            exact ⟨by first | rfl | exact ret_bool (by simp), L7.out.1⟩
end Go.Proofs.Ytcligeajgbibnaa

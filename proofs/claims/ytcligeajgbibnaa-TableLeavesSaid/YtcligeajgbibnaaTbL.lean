/-
  Layer 9's answers: Do.
-/
import Derived.Test.YtcligeajgbibnaaTbK
namespace Go.Proofs.Ytcligeajgbibnaa
open Go.RowKit Leaf Tbl
set_option linter.unusedVariables false

namespace Tbl
/-- a Put: block, place, clean -/
structure Pt where
  b : Int
  p : Int
  c : Bool
def insS (n : Int) (s : List Int × Bool) (d : Int) : List Int × Bool :=
  let s1 := if n ≤ d ∧ s.2 = false then (s.1 ++ [n], true) else s
  if d = n then s1 else (s1.1 ++ [d], s1.2)
def insT (n : Int) (ds : List Int) (k : Nat) : List Int × Bool := (ds.take k).foldl (insS n) ([], false)
def insK (n : Int) (ds : List Int) : List Int := if (insT n ds ds.length).2 = true then (insT n ds ds.length).1 else (insT n ds ds.length).1 ++ [n]
def cleanD (c : Bool) (ds : List Int) : List Int := if c = true then [] else ds
def doX (xs : List Int) (t : Pt) : List Int := if hasB xs.length t.b = true then xs.set t.b.toNat t.p else xs
def doD (xs ds : List Int) (t : Pt) : List Int := if hasB xs.length t.b = true ∧ xs.getD t.b.toNat 0 ≠ t.p then insK (t.b / 10) (cleanD t.c ds) else cleanD t.c ds
def doW (xs : List Int) (t : Pt) : Int := if hasB xs.length t.b = true then xs.getD t.b.toNat 0 else 0
theorem insT_zero (n : Int) (ds : List Int) : insT n ds 0 = ([], false) := rfl
theorem insT_succ {n : Int} {ds : List Int} {k : Nat} (h : k < ds.length) : insT n ds (k + 1) = insS n (insT n ds k) (ds.getD k 0) := by
  unfold insT
  rw [List.take_succ_eq_append_getElem h, List.foldl_append]
  simp [List.getD_eq_getElem?_getD, h]
theorem insS_le (n : Int) (s : List Int × Bool) (d : Int) : (insS n s d).1.length ≤ s.1.length + 2 := by
  unfold insS
  split <;> split <;> simp <;> omega
theorem insT_le (n : Int) (ds : List Int) (k : Nat) (h : k ≤ ds.length) : (insT n ds k).1.length ≤ 2 * k := by
  induction k with
  | zero => simp [insT_zero]
  | succ k ih =>
    rw [insT_succ (by omega)]
    have := insS_le n (insT n ds k) (ds.getD k 0)
    have := ih (by omega)
    omega
/-- the ways of one step -/
theorem insS_a {n d : Int} {l : List Int} (h : n ≤ d) (h2 : ¬ d = n) : insS n (l, false) d = (l ++ [n] ++ [d], true) := by simp [insS, h, h2]
theorem insS_b {n : Int} {l : List Int} : insS n (l, false) n = (l ++ [n], true) := by simp [insS]
theorem insS_c {n d : Int} {l : List Int} (h : ¬ n ≤ d) : insS n (l, false) d = (l ++ [d], false) := by
  have h2 : ¬ d = n := by omega
  simp [insS, h, h2]
theorem insS_d {n d : Int} {l : List Int} (h2 : ¬ d = n) : insS n (l, true) d = (l ++ [d], true) := by simp [insS, h2]
theorem insS_e {n : Int} {l : List Int} : insS n (l, true) n = (l, true) := by simp [insS]
end Tbl
def pcs (t : Pt) : List Value := [.int .i64 t.b, .int .i64 t.p, .bool t.c]
/-- a slice that is answered: the one that came in, or none, or a new one -/
def OutR (w w' : World) (A : Option Addr) (xs : List Int) (A1 : Option Addr) (xs' : List Int) : Prop :=
  Rd w' w'.heap.size A1 (is xs') ∧ ((A1 = A ∧ xs' = xs) ∨ xs' = [] ∨ ∃ ad, A1 = some ad ∧ w.heap.size ≤ ad.block)
theorem OutR.same {w w' : World} {A : Option Addr} {xs : List Int} (h : Rd w w.heap.size A (is xs)) (hb : Below w.heap.size w w') : OutR w w' A xs A xs := ⟨(h.below hb).more hb.size, .inl ⟨rfl, rfl⟩⟩
theorem OutR.nil {w w' : World} {A A1 : Option Addr} {xs : List Int} : OutR w w' A xs A1 [] := ⟨Rd.empty, .inr (.inl rfl)⟩
theorem OutR.own {w w' : World} {A A1 : Option Addr} {xs xs' : List Int} {c : Nat} (h : w'.ownsRow w.heap.size 3 1 (.slice A1 xs'.length c) xs'.length (is xs')) : OutR w w' A xs A1 xs' := by
  refine ⟨Rd.own h, ?_⟩
  rcases Nat.eq_zero_or_pos xs'.length with h0 | h0
  · exact .inr (.inl (List.eq_nil_of_length_eq_zero h0))
  · obtain ⟨g, rfl, hg, _⟩ := own_at h h0
    exact .inr (.inr ⟨_, rfl, hg⟩)
/-- what Do answers -/
def DoPost (w w' : World) (A A2 : Option Addr) (xs ds : List Int) (t : Pt) (e : Ending) : Prop :=
  ∃ A1 c1 A3 c3, e = .returned (.tuple #[.slice A1 xs.length c1, .slice A3 (doD xs ds t).length c3, .int .i64 (doW xs t)]) ∧ OutR w w' A xs A1 (doX xs t) ∧ OutR w w' A2 ds A3 (doD xs ds t) ∧ Below w.heap.size w w'

set_option maxRecDepth 100000 in
set_option maxHeartbeats 2000000 in
theorem rdo_any (A : Option Addr) (cap : Nat) (xs : List Int) (A2 : Option Addr) (cap2 : Nat) (ds : List Int) (b p : Int) (c : Bool) (w : World) (hx : xs.length ≤ 5000) (hd : ds.length ≤ 5000) (hr : Rd w w.heap.size A (is xs)) (hr2 : Rd w w.heap.size A2 (is ds)) :
    Calls Try.prog 13 #[.slice A xs.length cap, .slice A2 ds.length cap2, .agg #[.int .i64 b, .int .i64 p, .bool c]] w fun e w' => DoPost w w' A A2 xs ds ⟨b, p, c⟩ e := by
  have HR := Lib.hid hr
  have HR2 := Lib.hid hr2
  have B1 := Lib.hid ((Below.refl w.heap.size w).alloc (Nat.le_refl _) (.cells #[.int .i64 b, .int .i64 p, .bool c] 28 (0, 0)))
  have HDX : Hid (doX xs ⟨b, p, c⟩ = if hasB xs.length b = true then xs.set b.toNat p else xs) := Lib.hid rfl
  have HDD : Hid (doD xs ds ⟨b, p, c⟩ = if hasB xs.length b = true ∧ xs.getD b.toNat 0 ≠ p then insK (b / 10) (cleanD c ds) else cleanD c ds) := Lib.hid rfl
  have HDW : Hid (doW xs ⟨b, p, c⟩ = if hasB xs.length b = true then xs.getD b.toNat 0 else 0) := Lib.hid rfl
  have HPost : Hid (∀ (e : Ending) (w' : World) A1 c1 A3 c3, e = .returned (.tuple #[.slice A1 xs.length c1, .slice A3 (doD xs ds ⟨b, p, c⟩).length c3, .int .i64 (doW xs ⟨b, p, c⟩)]) → OutR w w' A xs A1 (doX xs ⟨b, p, c⟩) → OutR w w' A2 ds A3 (doD xs ds ⟨b, p, c⟩) → Below w.heap.size w w' → DoPost w w' A A2 xs ds ⟨b, p, c⟩ e) := Lib.hid fun e w' A1 c1 A3 c3 h1 h2 h3 h4 => ⟨A1, c1, A3, c3, h1, h2, h3, h4⟩
  generalize doX xs ⟨b, p, c⟩ = X at *
  generalize doD xs ds ⟨b, p, c⟩ = D at *
  generalize doW xs ⟨b, p, c⟩ = V at *
  generalize hQ : DoPost w = Q at *
  clear hr hr2
  cases c
  · rcases (show b < 0 ∨ (0 ≤ b ∧ (xs.length : Int) ≤ b) ∨ (0 ≤ b ∧ b < (xs.length : Int)) by omega) with b0 | ⟨b0, b1⟩ | ⟨b0, b1⟩
    · have hh : hasB xs.length b = false := hasB_low (by omega)
      rw [if_neg (by rw [hh]; simp)] at HDX HDD HDW
      clear hh
      generalize hxl : xs.length = len at *
      go_enter Try.func13, Try.ntmps13
      go_wp2
      exact bodyPost_ret (v := .tuple #[.slice A len cap, .slice A2 ds.length cap2, .int .i64 0]) (by simp [results, Try.results13, go_sem]) rfl (HPost.out _ _ A cap A2 cap2 (by rw [HDD.out, HDW.out]; rfl) (by rw [HDX.out]; exact OutR.same HR.out B1.out) (by rw [HDD.out]; exact OutR.same HR2.out B1.out) B1.out)
    · have hh : hasB xs.length b = false := hasB_high (by omega)
      rw [if_neg (by rw [hh]; simp)] at HDX HDD HDW
      clear hh
      generalize hxl : xs.length = len at *
      go_enter Try.func13, Try.ntmps13
      go_wp2
      exact bodyPost_ret (v := .tuple #[.slice A len cap, .slice A2 ds.length cap2, .int .i64 0]) (by simp [results, Try.results13, go_sem]) rfl (HPost.out _ _ A cap A2 cap2 (by rw [HDD.out, HDW.out]; rfl) (by rw [HDX.out]; exact OutR.same HR.out B1.out) (by rw [HDD.out]; exact OutR.same HR2.out B1.out) B1.out)
    · obtain ⟨k, rfl⟩ : ∃ k : Nat, b = k := ⟨b.toNat, by omega⟩
      have hkl : k < xs.length := by omega
      have hh : hasB xs.length k = true := hasB_nat hkl
      rw [if_pos hh] at HDX HDW
      rw [hh] at HDD
      simp only [Int.toNat_natCast, true_and] at HDX HDD HDW
      obtain ⟨ad, rfl, _, _⟩ := HR.out.at (is_get hkl)
      have HC : Hid (∀ W, Below w.heap.size w W → W.cell? (ad.add k) = some (.int .i64 (xs.getD k 0))) := Lib.hid fun W hW => by
        obtain ⟨ad2, e, _, h⟩ := (HR.out.below hW).at (is_get hkl)
        obtain rfl : ad = ad2 := by injection e
        exact h
      clear B1
      have HXl := Lib.hid (show (is xs).length = xs.length * 1 by rw [is_length, Nat.mul_one])
      have hw : wrap64 ((k : Int) / 10) = (k : Int) / 10 := by rw [show ((k : Int) / 10) = ((k / 10 : Nat) : Int) by omega]; exact wrap64_nat (by omega)
      clear hh hkl
      generalize hxl : xs.length = len at *
      have Hxl := Lib.hid hxl
      have hx5 := Lib.hid hx
      generalize hv : xs.getD k 0 = v at *
      have Hv := Lib.hid hv
      clear hv hxl
      by_cases hvp : v = p
      · have hvb : (v == p) = true := by simpa using hvp
        rw [if_neg (by simpa using hvp)] at HDD
        clear hvp
        go_enter Try.func13, Try.ntmps13
        go_wp2_with (first
          | ((with_reducible refine wpList_box_box _ (o := ⟨some 5, .box _ _, _, _, _, _⟩) rfl 28 _ rfl [.int .i64 (k : Int), .int .i64 p, .bool false] rfl ?_); go_loud (intro W1 x1 hb1 hs1; have B1 := Lib.hid (And.intro hb1 hs1); have HB1 := Lib.hid x1; have y0 : W1.cell? ⟨w.heap.size, 0, none⟩ = some (.int .i64 (k : Int)) := x1.cell 0; have y1 : W1.cell? ⟨w.heap.size, 1, none⟩ = some (.int .i64 p) := x1.cell 1; have y2 : W1.cell? ⟨w.heap.size, 2, none⟩ = some (.bool false) := x1.cell 2; have hc := HC.out W1 hb1; have HR1 := Lib.hid ((HR.out.below hb1).more hb1.size); clear x1 hb1 hs1))
          | (at_builtin; go_loud (refine wpList_append_copy W1 rfl _ _ _ rfl 3 _ 1 8 elemI rfl (some ad) len cap rfl (is xs) HXl.out HR1.out (is_one _) (by have := hx5.out; simp only [maxLen]; omega) (by have := hx5.out; omega) ?_); go_loud (intro A' c' w2 hown2 hb2); go_loud (have hlen : 0 < len := by omega); go_loud (obtain ⟨g, rfl, hg1, hg2⟩ := own_at hown2 hlen); go_loud (have hkk := hown2.cellAt k (by omega)); go_loud (rw [is_get (by rw [Hxl.out]; omega)] at hkk); go_loud (have hff := hown2.frozenAt k); go_loud (obtain ⟨hst, hgr⟩ := hown2.stored k (.int .i64 p)); go_loud (rw [← is_set] at hst); go_loud (have hb1 := B1.out.1.trans (hb2.mono (by rw [B1.out.2]; omega))); go_loud (have HF : Hid ((w2.setCell ⟨g, k, none⟩ (.int .i64 p)).ownsRow w.heap.size 3 1 (.slice (some ⟨g, 0, none⟩) len c') len (is (xs.set k p)) ∧ Below w.heap.size w (w2.setCell ⟨g, k, none⟩ (.int .i64 p))) := Lib.hid ⟨own_base0 hst (by rw [B1.out.2]; omega), below_stored hb1 hgr hb1.size (by rw [B1.out.2] at hg1; omega)⟩); go_loud (have z0 : w2.cell? ⟨w.heap.size, 0, none⟩ = some (.int .i64 (k : Int)) := (HB1.out.below hb2 HB1.out.lt).cell 0); go_loud (have z1 : w2.cell? ⟨w.heap.size, 1, none⟩ = some (.int .i64 p) := (HB1.out.below hb2 HB1.out.lt).cell 1); go_loud (have hgn : g ≠ w.heap.size := by rw [B1.out.2] at hg1; omega); go_loud (have z0' : (w2.setCell ⟨g, k, none⟩ (.int .i64 p)).cell? ⟨w.heap.size, 0, none⟩ = some (.int .i64 (k : Int)) := ((HB1.out.below hb2 HB1.out.lt).same (Below.heap_setCell _ _ _ _ (fun e => hgn e.symm))).cell 0); go_loud (have z1' : (w2.setCell ⟨g, k, none⟩ (.int .i64 p)).cell? ⟨w.heap.size, 1, none⟩ = some (.int .i64 p) := ((HB1.out.below hb2 HB1.out.lt).same (Below.heap_setCell _ _ _ _ (fun e => hgn e.symm))).cell 1); go_loud (have Hgn := Lib.hid hgn); go_loud (clear hown2 hb2 hst hgr hb1 hg1 hg2 hc hgn y0 y1 y2))
          | fail)
        exact bodyPost_ret (v := .tuple #[.slice (some ⟨g, 0, none⟩) len c', .slice A2 ds.length cap2, .int .i64 v]) (by simp [results, Try.results13, go_sem]) rfl (HPost.out _ _ (some ⟨g, 0, none⟩) c' A2 cap2 (by rw [HDD.out, HDW.out]; rfl) (by rw [HDX.out]; exact OutR.own (by rw [List.length_set, Hxl.out]; exact HF.out.1)) (by rw [HDD.out]; exact OutR.same HR2.out HF.out.2) HF.out.2)
      · have hvb : (v == p) = false := by simpa using hvp
        rw [if_pos hvp] at HDD
        clear hvp
        go_enter Try.func13, Try.ntmps13
        go_wp2_with (first
          | ((with_reducible refine wpList_box_box _ (o := ⟨some 5, .box _ _, _, _, _, _⟩) rfl 28 _ rfl [.int .i64 (k : Int), .int .i64 p, .bool false] rfl ?_); go_loud (intro W1 x1 hb1 hs1; have B1 := Lib.hid (And.intro hb1 hs1); have HB1 := Lib.hid x1; have y0 : W1.cell? ⟨w.heap.size, 0, none⟩ = some (.int .i64 (k : Int)) := x1.cell 0; have y1 : W1.cell? ⟨w.heap.size, 1, none⟩ = some (.int .i64 p) := x1.cell 1; have y2 : W1.cell? ⟨w.heap.size, 2, none⟩ = some (.bool false) := x1.cell 2; have hc := HC.out W1 hb1; have HR1 := Lib.hid ((HR.out.below hb1).more hb1.size); clear x1 hb1 hs1))
          | (at_builtin; go_loud (refine wpList_append_copy W1 rfl _ _ _ rfl 3 _ 1 8 elemI rfl (some ad) len cap rfl (is xs) HXl.out HR1.out (is_one _) (by have := hx5.out; simp only [maxLen]; omega) (by have := hx5.out; omega) ?_); go_loud (intro A' c' w2 hown2 hb2); go_loud (have hlen : 0 < len := by omega); go_loud (obtain ⟨g, rfl, hg1, hg2⟩ := own_at hown2 hlen); go_loud (have hkk := hown2.cellAt k (by omega)); go_loud (rw [is_get (by rw [Hxl.out]; omega)] at hkk); go_loud (have hff := hown2.frozenAt k); go_loud (obtain ⟨hst, hgr⟩ := hown2.stored k (.int .i64 p)); go_loud (rw [← is_set] at hst); go_loud (have hb1 := B1.out.1.trans (hb2.mono (by rw [B1.out.2]; omega))); go_loud (have HF : Hid ((w2.setCell ⟨g, k, none⟩ (.int .i64 p)).ownsRow w.heap.size 3 1 (.slice (some ⟨g, 0, none⟩) len c') len (is (xs.set k p)) ∧ Below w.heap.size w (w2.setCell ⟨g, k, none⟩ (.int .i64 p))) := Lib.hid ⟨own_base0 hst (by rw [B1.out.2]; omega), below_stored hb1 hgr hb1.size (by rw [B1.out.2] at hg1; omega)⟩); go_loud (have z0 : w2.cell? ⟨w.heap.size, 0, none⟩ = some (.int .i64 (k : Int)) := (HB1.out.below hb2 HB1.out.lt).cell 0); go_loud (have z1 : w2.cell? ⟨w.heap.size, 1, none⟩ = some (.int .i64 p) := (HB1.out.below hb2 HB1.out.lt).cell 1); go_loud (have hgn : g ≠ w.heap.size := by rw [B1.out.2] at hg1; omega); go_loud (have z0' : (w2.setCell ⟨g, k, none⟩ (.int .i64 p)).cell? ⟨w.heap.size, 0, none⟩ = some (.int .i64 (k : Int)) := ((HB1.out.below hb2 HB1.out.lt).same (Below.heap_setCell _ _ _ _ (fun e => hgn e.symm))).cell 0); go_loud (have z1' : (w2.setCell ⟨g, k, none⟩ (.int .i64 p)).cell? ⟨w.heap.size, 1, none⟩ = some (.int .i64 p) := ((HB1.out.below hb2 HB1.out.lt).same (Below.heap_setCell _ _ _ _ (fun e => hgn e.symm))).cell 1); go_loud (have Hgn := Lib.hid hgn); go_loud (clear hown2 hb2 hst hgr hb1 hg1 hg2 hc hgn y0 y1 y2))
          | fail)
        generalize w2.setCell ⟨g, k, none⟩ (.int .i64 p) = w3 at *
        have HDs : Hid (D = insK ((k : Int) / 10) ds) := HDD
        clear HDD z0 z1 z0' z1' hkk hff HR1 HB1 B1 HC
        have hdl : ds.length ≤ 5000 := hd
        generalize hN : (k : Int) / 10 = N at *
        clear hN
        go_loopw [12, 13, 14] (fun l inn i wr => ∃ j : Nat, j ≤ ds.length ∧ i = .int .i64 j ∧ inn = .bool (insT N ds j).2 ∧ wr.ownsRow w3.heap.size 3 1 l (insT N ds j).1.length (is (insT N ds j).1) ∧ Below w3.heap.size w3 wr) (fun _ _ i _ => ds.length - (intOf i).toNat)
        case atStart => exact ⟨0, Nat.zero_le _, rfl, rfl, World.ownsRow_nil _ _ _ _, Below.refl _ _⟩
        case round =>
          obtain ⟨j, hj, rfl, rfl, hown, hbl⟩ := hrel
          have hle := insT_le N ds j hj
          have hsz' := hbl.size
          by_cases hlt : j < ds.length
          · obtain ⟨ad2, rfl, _, _⟩ := HR2.out.at (is_get hlt)
            have HCd : Hid (∀ W, Below w3.heap.size w3 W → W.cell? (ad2.add j) = some (.int .i64 (ds.getD j 0))) := Lib.hid fun W hW => by
              obtain ⟨ad3, e, _, h⟩ := (HR2.out.below (HF.out.2.trans (hW.mono HF.out.2.size))).at (is_get hlt)
              obtain rfl : ad2 = ad3 := by injection e
              exact h
            have hcd := HCd.out wr hbl
            have hji : (j : Int) < (ds.length : Int) := by omega
            have hss := insT_succ (n := N) hlt
            generalize insT N ds j = S at *
            obtain ⟨l, inn⟩ := S
            generalize ds.getD j 0 = d at *
            simp only at *
            have HO0 := Lib.hid (And.intro hown hbl)
            cases inn
            · rcases (show d < N ∨ d = N ∨ N < d by omega) with d0 | d0 | d0
              · have HS : Hid (insT N ds (j + 1) = (l ++ [d], false)) := Lib.hid (hss.trans (insS_c (by omega)))
                clear hss
                go_wp2_with (first | (at_builtin; go_loud (refine wpList_append_one _ rfl _ _ _ rfl w3.heap.size 3 _ 8 elemI u12 l.length _ rfl _ rfl hown rfl (by simp only [maxLen]; omega) (by omega) hsz' ?_); intro v1 w4 hown1 hg1; have HO := Lib.hid (And.intro hown1 (hbl.grown hg1 hsz' fun g hg => (hown.lt g hg).1)); have hc4 := HCd.out w4 HO.out.2; clear hown1 hg1) | fail)
                go_roundw
                case rel => exact ⟨j + 1, by omega, by go_num, by rw [HS.out], by rw [HS.out, List.length_append, is_append, is_one1]; exact HO.out.1, HO.out.2⟩
                case measure => first | (simp [intOf]; done) | (simp [intOf]; omega)
              · subst d0
                have HS : Hid (insT d ds (j + 1) = (l ++ [d], true)) := Lib.hid (hss.trans (insS_b))
                clear hss
                go_wp2_with (first | (at_builtin; go_loud (refine wpList_append_one _ rfl _ _ _ rfl w3.heap.size 3 _ 8 elemI u12 l.length _ rfl _ rfl hown rfl (by simp only [maxLen]; omega) (by omega) hsz' ?_); intro v1 w4 hown1 hg1; have HO := Lib.hid (And.intro hown1 (hbl.grown hg1 hsz' fun g hg => (hown.lt g hg).1)); have hc4 := HCd.out w4 HO.out.2; clear hown1 hg1) | fail)
                go_roundw
                case rel => exact ⟨j + 1, by omega, by go_num, by rw [HS.out], by rw [HS.out, List.length_append, is_append, is_one1]; exact HO.out.1, HO.out.2⟩
                case measure => first | (simp [intOf]; done) | (simp [intOf]; omega)
              · have HS : Hid (insT N ds (j + 1) = (l ++ [N] ++ [d], true)) := Lib.hid (hss.trans (insS_a (by omega) (by omega)))
                clear hss
                go_wp2_with (first | (at_builtin; go_loud (refine wpList_append_one _ rfl _ _ _ rfl w3.heap.size 3 _ 8 elemI u12 l.length _ rfl _ rfl hown rfl (by simp only [maxLen]; omega) (by omega) hsz' ?_); intro v1 w4 hown1 hg1; have HO := Lib.hid (And.intro hown1 (hbl.grown hg1 hsz' fun g hg => (hown.lt g hg).1)); have hc4 := HCd.out w4 HO.out.2; clear hown1 hg1) | (at_builtin; go_loud (refine wpList_append_one _ rfl _ _ _ rfl w3.heap.size 3 _ 8 elemI v1 (l.length + 1) _ rfl _ rfl HO.out.1 rfl (by simp only [maxLen]; omega) (by omega) HO.out.2.size ?_); intro v2 w5 hown2 hg2; have HO2 := Lib.hid (And.intro hown2 (HO.out.2.grown hg2 HO.out.2.size fun g hg => (HO.out.1.lt g hg).1)); clear hown2 hg2) | fail)
                go_roundw
                case rel => exact ⟨j + 1, by omega, by go_num, by rw [HS.out], by rw [HS.out, List.length_append, List.length_append, is_append, is_append, is_one1, is_one1]; exact HO2.out.1, HO2.out.2⟩
                case measure => first | (simp [intOf]; done) | (simp [intOf]; omega)
            · rcases (show d < N ∨ d = N ∨ N < d by omega) with d0 | d0 | d0
              · have HS : Hid (insT N ds (j + 1) = (l ++ [d], true)) := Lib.hid (hss.trans (insS_d (by omega)))
                clear hss
                go_wp2_with (first | (at_builtin; go_loud (refine wpList_append_one _ rfl _ _ _ rfl w3.heap.size 3 _ 8 elemI u12 l.length _ rfl _ rfl hown rfl (by simp only [maxLen]; omega) (by omega) hsz' ?_); intro v1 w4 hown1 hg1; have HO := Lib.hid (And.intro hown1 (hbl.grown hg1 hsz' fun g hg => (hown.lt g hg).1)); have hc4 := HCd.out w4 HO.out.2; clear hown1 hg1) | fail)
                go_roundw
                case rel => exact ⟨j + 1, by omega, by go_num, by rw [HS.out], by rw [HS.out, List.length_append, is_append, is_one1]; exact HO.out.1, HO.out.2⟩
                case measure => first | (simp [intOf]; done) | (simp [intOf]; omega)
              · subst d0
                have HS : Hid (insT d ds (j + 1) = (l, true)) := Lib.hid (hss.trans (insS_e))
                clear hss
                clear hown hbl
                go_wp2
                go_roundw
                case rel => exact ⟨j + 1, by omega, by go_num, by rw [HS.out], by rw [HS.out]; exact HO0.out.1, HO0.out.2⟩
                case measure => first | (simp [intOf]; done) | (simp [intOf]; omega)
              · have HS : Hid (insT N ds (j + 1) = (l ++ [d], true)) := Lib.hid (hss.trans (insS_d (by omega)))
                clear hss
                go_wp2_with (first | (at_builtin; go_loud (refine wpList_append_one _ rfl _ _ _ rfl w3.heap.size 3 _ 8 elemI u12 l.length _ rfl _ rfl hown rfl (by simp only [maxLen]; omega) (by omega) hsz' ?_); intro v1 w4 hown1 hg1; have HO := Lib.hid (And.intro hown1 (hbl.grown hg1 hsz' fun g hg => (hown.lt g hg).1)); have hc4 := HCd.out w4 HO.out.2; clear hown1 hg1) | fail)
                go_roundw
                case rel => exact ⟨j + 1, by omega, by go_num, by rw [HS.out], by rw [HS.out, List.length_append, is_append, is_one1]; exact HO.out.1, HO.out.2⟩
                case measure => first | (simp [intOf]; done) | (simp [intOf]; omega)
          · obtain rfl : j = ds.length := by omega
            have hins : Hid (D = if (insT N ds ds.length).2 = true then (insT N ds ds.length).1 else (insT N ds ds.length).1 ++ [N]) := HDs
            generalize insT N ds ds.length = S at *
            obtain ⟨l, inn⟩ := S
            simp only at *
            cases inn
            · rw [if_neg (by simp)] at hins
              go_wp2_with (at_builtin; go_loud (refine wpList_append_one _ rfl _ _ _ rfl w3.heap.size 3 _ 8 elemI u12 l.length _ rfl _ rfl hown rfl (by simp only [maxLen]; omega) (by omega) hsz' ?_); intro v1 w4 hown1 hg1; have HO := Lib.hid (And.intro hown1 (hbl.grown hg1 hsz' fun g hg => (hown.lt g hg).1)); clear hown1 hg1)
              obtain ⟨A4, c4, rfl⟩ := own_slice HO.out.1
              have HD4 : Hid (D = l ++ [N]) := hins
              exact bodyPost_ret (v := .tuple #[.slice (some ⟨g, 0, none⟩) len c', .slice A4 (l.length + 1) c4, .int .i64 v]) (by simp [results, Try.results13, go_sem]) rfl (HPost.out _ _ (some ⟨g, 0, none⟩) c' A4 c4 (by rw [HD4.out, HDW.out]; simp) (by rw [HDX.out]; exact OutR.own (by rw [List.length_set, Hxl.out]; exact own_below HF.out.1 HO.out.2)) (by rw [HD4.out]; refine OutR.own (c := c4) ?_; rw [List.length_append, is_append, is_one1]; exact own_base0 HO.out.1 HF.out.2.size) (HF.out.2.trans (HO.out.2.mono HF.out.2.size)))
            · rw [if_pos rfl] at hins
              have HO := Lib.hid (And.intro hown hbl)
              obtain ⟨A4, c4, rfl⟩ := own_slice hown
              have HD4 : Hid (D = l) := hins
              clear hown hbl
              go_wp2
              exact bodyPost_ret (v := .tuple #[.slice (some ⟨g, 0, none⟩) len c', .slice A4 l.length c4, .int .i64 v]) (by simp [results, Try.results13, go_sem]) rfl (HPost.out _ _ (some ⟨g, 0, none⟩) c' A4 c4 (by rw [HD4.out, HDW.out]) (by rw [HDX.out]; exact OutR.own (by rw [List.length_set, Hxl.out]; exact own_below HF.out.1 HO.out.2)) (by rw [HD4.out]; exact OutR.own (c := c4) (own_base0 HO.out.1 HF.out.2.size)) (HF.out.2.trans (HO.out.2.mono HF.out.2.size)))
  · rcases (show b < 0 ∨ (0 ≤ b ∧ (xs.length : Int) ≤ b) ∨ (0 ≤ b ∧ b < (xs.length : Int)) by omega) with b0 | ⟨b0, b1⟩ | ⟨b0, b1⟩
    · have hh : hasB xs.length b = false := hasB_low (by omega)
      rw [if_neg (by rw [hh]; simp)] at HDX HDD HDW
      clear hh
      generalize hxl : xs.length = len at *
      go_enter Try.func13, Try.ntmps13
      go_wp2
      exact bodyPost_ret (v := .tuple #[.slice A len cap, .slice none 0 0, .int .i64 0]) (by simp [results, Try.results13, go_sem]) rfl (HPost.out _ _ A cap none 0 (by rw [HDD.out, HDW.out]; rfl) (by rw [HDX.out]; exact OutR.same HR.out B1.out) (by rw [HDD.out]; exact OutR.nil) B1.out)
    · have hh : hasB xs.length b = false := hasB_high (by omega)
      rw [if_neg (by rw [hh]; simp)] at HDX HDD HDW
      clear hh
      generalize hxl : xs.length = len at *
      go_enter Try.func13, Try.ntmps13
      go_wp2
      exact bodyPost_ret (v := .tuple #[.slice A len cap, .slice none 0 0, .int .i64 0]) (by simp [results, Try.results13, go_sem]) rfl (HPost.out _ _ A cap none 0 (by rw [HDD.out, HDW.out]; rfl) (by rw [HDX.out]; exact OutR.same HR.out B1.out) (by rw [HDD.out]; exact OutR.nil) B1.out)
    · obtain ⟨k, rfl⟩ : ∃ k : Nat, b = k := ⟨b.toNat, by omega⟩
      have hkl : k < xs.length := by omega
      have hh : hasB xs.length k = true := hasB_nat hkl
      rw [if_pos hh] at HDX HDW
      rw [hh] at HDD
      simp only [Int.toNat_natCast, true_and] at HDX HDD HDW
      obtain ⟨ad, rfl, _, _⟩ := HR.out.at (is_get hkl)
      have HC : Hid (∀ W, Below w.heap.size w W → W.cell? (ad.add k) = some (.int .i64 (xs.getD k 0))) := Lib.hid fun W hW => by
        obtain ⟨ad2, e, _, h⟩ := (HR.out.below hW).at (is_get hkl)
        obtain rfl : ad = ad2 := by injection e
        exact h
      clear B1
      have HXl := Lib.hid (show (is xs).length = xs.length * 1 by rw [is_length, Nat.mul_one])
      have hw : wrap64 ((k : Int) / 10) = (k : Int) / 10 := by rw [show ((k : Int) / 10) = ((k / 10 : Nat) : Int) by omega]; exact wrap64_nat (by omega)
      clear hh hkl
      generalize hxl : xs.length = len at *
      have Hxl := Lib.hid hxl
      have hx5 := Lib.hid hx
      generalize hv : xs.getD k 0 = v at *
      have Hv := Lib.hid hv
      clear hv hxl
      by_cases hvp : v = p
      · have hvb : (v == p) = true := by simpa using hvp
        rw [if_neg (by simpa using hvp)] at HDD
        clear hvp
        go_enter Try.func13, Try.ntmps13
        go_wp2_with (first
          | ((with_reducible refine wpList_box_box _ (o := ⟨some 5, .box _ _, _, _, _, _⟩) rfl 28 _ rfl [.int .i64 (k : Int), .int .i64 p, .bool true] rfl ?_); go_loud (intro W1 x1 hb1 hs1; have B1 := Lib.hid (And.intro hb1 hs1); have HB1 := Lib.hid x1; have y0 : W1.cell? ⟨w.heap.size, 0, none⟩ = some (.int .i64 (k : Int)) := x1.cell 0; have y1 : W1.cell? ⟨w.heap.size, 1, none⟩ = some (.int .i64 p) := x1.cell 1; have y2 : W1.cell? ⟨w.heap.size, 2, none⟩ = some (.bool true) := x1.cell 2; have hc := HC.out W1 hb1; have HR1 := Lib.hid ((HR.out.below hb1).more hb1.size); clear x1 hb1 hs1))
          | (at_builtin; go_loud (refine wpList_append_copy W1 rfl _ _ _ rfl 3 _ 1 8 elemI rfl (some ad) len cap rfl (is xs) HXl.out HR1.out (is_one _) (by have := hx5.out; simp only [maxLen]; omega) (by have := hx5.out; omega) ?_); go_loud (intro A' c' w2 hown2 hb2); go_loud (have hlen : 0 < len := by omega); go_loud (obtain ⟨g, rfl, hg1, hg2⟩ := own_at hown2 hlen); go_loud (have hkk := hown2.cellAt k (by omega)); go_loud (rw [is_get (by rw [Hxl.out]; omega)] at hkk); go_loud (have hff := hown2.frozenAt k); go_loud (obtain ⟨hst, hgr⟩ := hown2.stored k (.int .i64 p)); go_loud (rw [← is_set] at hst); go_loud (have hb1 := B1.out.1.trans (hb2.mono (by rw [B1.out.2]; omega))); go_loud (have HF : Hid ((w2.setCell ⟨g, k, none⟩ (.int .i64 p)).ownsRow w.heap.size 3 1 (.slice (some ⟨g, 0, none⟩) len c') len (is (xs.set k p)) ∧ Below w.heap.size w (w2.setCell ⟨g, k, none⟩ (.int .i64 p))) := Lib.hid ⟨own_base0 hst (by rw [B1.out.2]; omega), below_stored hb1 hgr hb1.size (by rw [B1.out.2] at hg1; omega)⟩); go_loud (have z0 : w2.cell? ⟨w.heap.size, 0, none⟩ = some (.int .i64 (k : Int)) := (HB1.out.below hb2 HB1.out.lt).cell 0); go_loud (have z1 : w2.cell? ⟨w.heap.size, 1, none⟩ = some (.int .i64 p) := (HB1.out.below hb2 HB1.out.lt).cell 1); go_loud (have hgn : g ≠ w.heap.size := by rw [B1.out.2] at hg1; omega); go_loud (have z0' : (w2.setCell ⟨g, k, none⟩ (.int .i64 p)).cell? ⟨w.heap.size, 0, none⟩ = some (.int .i64 (k : Int)) := ((HB1.out.below hb2 HB1.out.lt).same (Below.heap_setCell _ _ _ _ (fun e => hgn e.symm))).cell 0); go_loud (have z1' : (w2.setCell ⟨g, k, none⟩ (.int .i64 p)).cell? ⟨w.heap.size, 1, none⟩ = some (.int .i64 p) := ((HB1.out.below hb2 HB1.out.lt).same (Below.heap_setCell _ _ _ _ (fun e => hgn e.symm))).cell 1); go_loud (have Hgn := Lib.hid hgn); go_loud (clear hown2 hb2 hst hgr hb1 hg1 hg2 hc hgn y0 y1 y2))
          | fail)
        exact bodyPost_ret (v := .tuple #[.slice (some ⟨g, 0, none⟩) len c', .slice none 0 0, .int .i64 v]) (by simp [results, Try.results13, go_sem]) rfl (HPost.out _ _ (some ⟨g, 0, none⟩) c' none 0 (by rw [HDD.out, HDW.out]; rfl) (by rw [HDX.out]; exact OutR.own (by rw [List.length_set, Hxl.out]; exact HF.out.1)) (by rw [HDD.out]; exact OutR.nil) HF.out.2)
      · have hvb : (v == p) = false := by simpa using hvp
        rw [if_pos hvp] at HDD
        clear hvp
        go_enter Try.func13, Try.ntmps13
        go_wp2_with (first
          | ((with_reducible refine wpList_box_box _ (o := ⟨some 5, .box _ _, _, _, _, _⟩) rfl 28 _ rfl [.int .i64 (k : Int), .int .i64 p, .bool true] rfl ?_); go_loud (intro W1 x1 hb1 hs1; have B1 := Lib.hid (And.intro hb1 hs1); have HB1 := Lib.hid x1; have y0 : W1.cell? ⟨w.heap.size, 0, none⟩ = some (.int .i64 (k : Int)) := x1.cell 0; have y1 : W1.cell? ⟨w.heap.size, 1, none⟩ = some (.int .i64 p) := x1.cell 1; have y2 : W1.cell? ⟨w.heap.size, 2, none⟩ = some (.bool true) := x1.cell 2; have hc := HC.out W1 hb1; have HR1 := Lib.hid ((HR.out.below hb1).more hb1.size); clear x1 hb1 hs1))
          | (at_builtin; go_loud (refine wpList_append_copy W1 rfl _ _ _ rfl 3 _ 1 8 elemI rfl (some ad) len cap rfl (is xs) HXl.out HR1.out (is_one _) (by have := hx5.out; simp only [maxLen]; omega) (by have := hx5.out; omega) ?_); go_loud (intro A' c' w2 hown2 hb2); go_loud (have hlen : 0 < len := by omega); go_loud (obtain ⟨g, rfl, hg1, hg2⟩ := own_at hown2 hlen); go_loud (have hkk := hown2.cellAt k (by omega)); go_loud (rw [is_get (by rw [Hxl.out]; omega)] at hkk); go_loud (have hff := hown2.frozenAt k); go_loud (obtain ⟨hst, hgr⟩ := hown2.stored k (.int .i64 p)); go_loud (rw [← is_set] at hst); go_loud (have hb1 := B1.out.1.trans (hb2.mono (by rw [B1.out.2]; omega))); go_loud (have HF : Hid ((w2.setCell ⟨g, k, none⟩ (.int .i64 p)).ownsRow w.heap.size 3 1 (.slice (some ⟨g, 0, none⟩) len c') len (is (xs.set k p)) ∧ Below w.heap.size w (w2.setCell ⟨g, k, none⟩ (.int .i64 p))) := Lib.hid ⟨own_base0 hst (by rw [B1.out.2]; omega), below_stored hb1 hgr hb1.size (by rw [B1.out.2] at hg1; omega)⟩); go_loud (have z0 : w2.cell? ⟨w.heap.size, 0, none⟩ = some (.int .i64 (k : Int)) := (HB1.out.below hb2 HB1.out.lt).cell 0); go_loud (have z1 : w2.cell? ⟨w.heap.size, 1, none⟩ = some (.int .i64 p) := (HB1.out.below hb2 HB1.out.lt).cell 1); go_loud (have hgn : g ≠ w.heap.size := by rw [B1.out.2] at hg1; omega); go_loud (have z0' : (w2.setCell ⟨g, k, none⟩ (.int .i64 p)).cell? ⟨w.heap.size, 0, none⟩ = some (.int .i64 (k : Int)) := ((HB1.out.below hb2 HB1.out.lt).same (Below.heap_setCell _ _ _ _ (fun e => hgn e.symm))).cell 0); go_loud (have z1' : (w2.setCell ⟨g, k, none⟩ (.int .i64 p)).cell? ⟨w.heap.size, 1, none⟩ = some (.int .i64 p) := ((HB1.out.below hb2 HB1.out.lt).same (Below.heap_setCell _ _ _ _ (fun e => hgn e.symm))).cell 1); go_loud (have Hgn := Lib.hid hgn); go_loud (clear hown2 hb2 hst hgr hb1 hg1 hg2 hc hgn y0 y1 y2))
          | fail)
        generalize w2.setCell ⟨g, k, none⟩ (.int .i64 p) = w3 at *
        have HDs : Hid (D = insK ((k : Int) / 10) ([] : List Int)) := HDD
        clear HDD z0 z1 z0' z1' hkk hff HR1 HB1 B1 HC
        have hdl : ([] : List Int).length ≤ 5000 := Nat.zero_le _
        generalize hN : (k : Int) / 10 = N at *
        clear hN
        go_loopw [12, 13, 14] (fun l inn i wr => ∃ j : Nat, j ≤ ([] : List Int).length ∧ i = .int .i64 j ∧ inn = .bool (insT N ([] : List Int) j).2 ∧ wr.ownsRow w3.heap.size 3 1 l (insT N ([] : List Int) j).1.length (is (insT N ([] : List Int) j).1) ∧ Below w3.heap.size w3 wr) (fun _ _ i _ => ([] : List Int).length - (intOf i).toNat)
        case atStart => exact ⟨0, Nat.zero_le _, rfl, rfl, World.ownsRow_nil _ _ _ _, Below.refl _ _⟩
        case round =>
          obtain ⟨j, hj, rfl, rfl, hown, hbl⟩ := hrel
          have hle := insT_le N ([] : List Int) j hj
          have hsz' := hbl.size
          by_cases hlt : j < ([] : List Int).length
          · exact absurd hlt (Nat.not_lt_zero _)
          · obtain rfl : j = ([] : List Int).length := by omega
            have hins : Hid (D = if (insT N ([] : List Int) ([] : List Int).length).2 = true then (insT N ([] : List Int) ([] : List Int).length).1 else (insT N ([] : List Int) ([] : List Int).length).1 ++ [N]) := HDs
            generalize insT N ([] : List Int) ([] : List Int).length = S at *
            obtain ⟨l, inn⟩ := S
            simp only at *
            cases inn
            · rw [if_neg (by simp)] at hins
              go_wp2_with (at_builtin; go_loud (refine wpList_append_one _ rfl _ _ _ rfl w3.heap.size 3 _ 8 elemI u12 l.length _ rfl _ rfl hown rfl (by simp only [maxLen]; omega) (by omega) hsz' ?_); intro v1 w4 hown1 hg1; have HO := Lib.hid (And.intro hown1 (hbl.grown hg1 hsz' fun g hg => (hown.lt g hg).1)); clear hown1 hg1)
              obtain ⟨A4, c4, rfl⟩ := own_slice HO.out.1
              have HD4 : Hid (D = l ++ [N]) := hins
              exact bodyPost_ret (v := .tuple #[.slice (some ⟨g, 0, none⟩) len c', .slice A4 (l.length + 1) c4, .int .i64 v]) (by simp [results, Try.results13, go_sem]) rfl (HPost.out _ _ (some ⟨g, 0, none⟩) c' A4 c4 (by rw [HD4.out, HDW.out]; simp) (by rw [HDX.out]; exact OutR.own (by rw [List.length_set, Hxl.out]; exact own_below HF.out.1 HO.out.2)) (by rw [HD4.out]; refine OutR.own (c := c4) ?_; rw [List.length_append, is_append, is_one1]; exact own_base0 HO.out.1 HF.out.2.size) (HF.out.2.trans (HO.out.2.mono HF.out.2.size)))
            · rw [if_pos rfl] at hins
              have HO := Lib.hid (And.intro hown hbl)
              obtain ⟨A4, c4, rfl⟩ := own_slice hown
              have HD4 : Hid (D = l) := hins
              clear hown hbl
              go_wp2
              exact bodyPost_ret (v := .tuple #[.slice (some ⟨g, 0, none⟩) len c', .slice A4 l.length c4, .int .i64 v]) (by simp [results, Try.results13, go_sem]) rfl (HPost.out _ _ (some ⟨g, 0, none⟩) c' A4 c4 (by rw [HD4.out, HDW.out]) (by rw [HDX.out]; exact OutR.own (by rw [List.length_set, Hxl.out]; exact own_below HF.out.1 HO.out.2)) (by rw [HD4.out]; exact OutR.own (c := c4) (own_base0 HO.out.1 HF.out.2.size)) (HF.out.2.trans (HO.out.2.mono HF.out.2.size)))
end Go.Proofs.Ytcligeajgbibnaa

/-
  Package table: Set, Clean.
-/
import Derived.Test.YtcligeajgbibnaaTbB
import Derived.Test.YtcligeajgbibnaaMid
import Derived.StillTailTactics
namespace Go.Proofs.Ytcligeajgbibnaa
open Go.RowKit Leaf Tbl
set_option linter.unusedVariables false

namespace Tbl
def putY (n : Nat) (ys : List Int) (b p : Int) : List Int := if hasB n b = true then ys.set b.toNat p else ys
def putD (n : Nat) (ys : List Int) (ds : List Bool) (b p : Int) : List Bool := if hasB n b = true ∧ getT n ys b ≠ p then ds.set (b.toNat / 10) true else ds
theorem putY_no {n : Nat} {ys : List Int} {b p : Int} (h : hasB n b = false) : putY n ys b p = ys := by unfold putY; rw [h]; rfl
theorem putD_no {n : Nat} {ys : List Int} {ds : List Bool} {b p : Int} (h : hasB n b = false) : putD n ys ds b p = ds := by unfold putD; rw [if_neg]; rw [h]; simp
theorem putY_nat {n k : Nat} {ys : List Int} {p : Int} (h : k < n) : putY n ys k p = ys.set k p := by unfold putY; rw [if_pos (hasB_nat h)]; rfl
theorem putD_same {n k : Nat} {ys : List Int} {ds : List Bool} {p : Int} (h : getT n ys k = p) : putD n ys ds k p = ds := by unfold putD; rw [if_neg (fun q => q.2 h)]
theorem putD_nat {n k : Nat} {ys : List Int} {ds : List Bool} {p : Int} (hk : k < n) (h : getT n ys k ≠ p) : putD n ys ds k p = ds.set (k / 10) true := by unfold putD; rw [if_pos ⟨hasB_nat hk, h⟩]; rfl
/-- the leaf of number q -/
def leafOf (ys : List Int) (q : Nat) : List Int := (ys.drop (q * 10)).take 10
theorem leafOf_length {ys : List Int} {q P : Nat} (h : ys.length = 10 * P) (hq : q < P) : (leafOf ys q).length = 10 := by simp [leafOf]; omega
theorem leafOf_get {ys : List Int} {q j : Nat} (hj : j < 10) : (leafOf ys q).getD j 0 = ys.getD (q * 10 + j) 0 := by
  simp only [leafOf, List.getD_eq_getElem?_getD, List.getElem?_take, List.getElem?_drop, if_pos hj]
theorem leafOf_at {ys : List Int} {q j : Nat} {v : Value} (h : (is (leafOf ys q))[j]? = some v) : (is ys)[q * 10 + j]? = some v := by
  unfold is leafOf at h
  rw [List.getElem?_map, List.getElem?_take] at h
  by_cases hj : j < 10
  · rw [if_pos hj, List.getElem?_drop] at h
    unfold is
    rw [List.getElem?_map]
    exact h
  · rw [if_neg hj] at h
    cases h
theorem leafOf_lay {ys : List Int} {q j P : Nat} {x : Int} (h : ys.length = 10 * P) (hq : q < P) (hj : j < 10) : lay ys (q * 10) ((leafOf ys q).set j x) = ys.set (q * 10 + j) x := by
  have hl := leafOf_length h hq
  rw [lay_set (by omega) (by rw [hl]; rfl) (by omega)]
theorem set_self (l : List Int) (k : Nat) : l.set k (l.getD k 0) = l := by
  by_cases h : k < l.length
  · simp [List.getD_eq_getElem?_getD, h]
  · exact List.set_eq_of_length_le (by omega)
theorem set_ne {l : List Int} {j : Nat} {x : Int} (hj : j < l.length) : (l.set j x == l) = decide (l.getD j 0 = x) := by
  have e : l.getD j 0 = l[j] := by simp [List.getD_eq_getElem?_getD, hj]
  rw [e]
  by_cases h : l[j] = x
  · subst h
    simp
  · rw [decide_eq_false h, beq_eq_false_iff_ne]
    intro h2
    have := congrArg (·[j]?) h2
    simp [hj] at this
    exact h this.symm
end Tbl
theorem size_ten : (Try.prog.info? 59).map (·.size) = some 10 := by kernel_rfl
theorem zero_tleaf (w : World) : (zeroValue 59).run Try.prog w = .ok (.agg (is z10).toArray) w :=
  (zero_of_info (P := Try.prog) (t := 59) (v := .agg (is z10).toArray) (n := 10) (by kernel_rfl)).1 w
theorem tl_equal (w : World) (xs ys : List Int) (hx : xs.length = 10) (hy : ys.length = 10) : (Op.equalIn 10000 59 (.agg (is xs).toArray) (.agg (is ys).toArray)).run Try.prog w = .ok (xs == ys) w :=
  big_equal w 9998 _ _ 10 .i64 Try.underlying59 Try.underlying3 size_int xs ys hx hy
theorem guard_tleaf : Try.prog.eqGuardType Try.prog.depth 59 = false := by kernel_rfl
theorem tl_size {L : List Int} (h : L.length = 10) : (Try.prog.info? 59).map (·.size) = some (is L).length := by rw [is_length, h]; exact size_ten
section
variable {w : World} {ops : Array Oper} {rest : List Oper} {o : Oper} {a : Act} {Q : Exit → Act → World → Prop}
theorem wpList_tl_alloc (hgd : o.guard = none) (ho : o.op = .alloc 59)
    (h : ∀ w', Box w' w.heap.size 59 (is z10) → Below w.heap.size w w' → w'.heap.size = w.heap.size + 1 → wpList Try.prog ops Q rest (a.put o.dst (.pointer (some ⟨w.heap.size, 0, none⟩))) w') : wpList Try.prog ops Q (o :: rest) a w :=
  wpList_alloc_box w hgd _ ho (is z10) zero_tleaf h
theorem wpList_tl_store (hgd : o.guard = none) (x y : Operand) (ho : o.op = .store 59 x y) (g : Nat) (L old : List Int) (hr : L.length = 10) (hold : old.length = 10) (hx : a.eval x = .pointer (some ⟨g, 0, none⟩)) (hy : a.eval y = .agg (is L).toArray) (hb : Box w g 59 (is old))
    (h : ∀ w', Box w' g 59 (is L) → w.grownBy w' (some g) → w'.heap.size = w.heap.size → wpList Try.prog ops Q rest (a.put o.dst undef) w') : wpList Try.prog ops Q (o :: rest) a w :=
  wpList_store_box w hgd _ x y ho g (is L) (is old) (tl_size hr) (by rw [is_length, is_length, hr, hold]) (is_one L) hx hy hb
    (h _ (setRow_heap w g _ _ _ _ hb) ⟨rfl, rfl, rfl, by simp [World.setRow], fun k _ hk => setRow_other w g k _ (by intro e; exact hk (by rw [e]))⟩ (by simp [World.setRow]))
theorem wpList_tl_lay (hgd : o.guard = none) (x y : Operand) (ho : o.op = .store 59 x y) (g off : Nat) (L ys : List Int) (hr : L.length = 10) (hl : off + 10 ≤ ys.length) (hx : a.eval x = .pointer (some ⟨g, off, none⟩)) (hy : a.eval y = .agg (is L).toArray) (hb : Box w g 59 (is ys))
    (h : ∀ w', Box w' g 59 (is (lay ys off L)) → w.grownBy w' (some g) → w'.heap.size = w.heap.size → wpList Try.prog ops Q rest (a.put o.dst undef) w') : wpList Try.prog ops Q (o :: rest) a w :=
  wpList_store_midbox w hgd _ x y ho g off _ (is ys) (is L) (tl_size hr) (by rw [is_length, is_length, hr]; exact hl) (is_one L) hx hy hb
    (by unfold is at h ⊢; rw [lay_map]; exact h)
end
/-- blocks of a table that a call may touch -/
abbrev TbT (g h : Nat) : Nat → Prop := fun x => x = g ∨ x = h
theorem TbIs.drew {w : World} {d g h n : Nat} {ys : List Int} {ds : List Bool} (t : TbIs w d g h n ys ds) : TbIs w.drew d g h n ys ds := ⟨t.tb, t.lv, t.dt, t.hn, t.hy, t.hd⟩
theorem TbIs.setDt {w : World} {d g h n : Nat} {ys : List Int} {ds : List Bool} (t : TbIs w d g h n ys ds) (k : Nat) (b : Bool) : TbIs (w.setCell ⟨h, k, none⟩ (.bool b)) d g h n ys (ds.set k b) := by
  obtain ⟨h1, h2, h3⟩ := t.apart
  refine ⟨t.tb.same (Below.heap_setCell _ _ _ _ ?_), t.lv.same (Below.heap_setCell _ _ _ _ ?_), ?_, t.hn, t.hy, by rw [List.length_set]; exact t.hd⟩
  · exact h2
  · exact h3
  · have := t.dt.set k (.bool b)
    rwa [← List.map_set] at this
theorem TbIs.setLv {w w' : World} {d g h n : Nat} {ys ys' : List Int} {ds : List Bool} (t : TbIs w d g h n ys ds) (hb : Box w' g 59 (is ys')) (hg : w.grownBy w' (some g)) (hl : ys'.length = ys.length) : TbIs w' d g h n ys' ds := by
  obtain ⟨h1, h2, h3⟩ := t.apart
  exact ⟨t.tb.grown hg h1, hb, t.dt.grown hg (Ne.symm h3), t.hn, by rw [hl]; exact t.hy, t.hd⟩
set_option maxRecDepth 100000 in
theorem tset_any {d g h n : Nat} {ys : List Int} {ds : List Bool} (w : World) (b p : Int) (t : TbIs w d g h n ys ds) :
    Calls Try.prog 12 #[tp d, .int .i64 b, .int .i64 p] w fun e w' => e = .returned (.int .i64 (getT n ys b)) ∧ TbIs w' d g h n (putY n ys b p) (putD n ys ds b p) ∧ Fr (TbT g h) w w' := by
  have HH := Lib.hid (has_any w b t)
  cases hh : hasB n b
  · have H := Lib.hid (getT_no (ys := ys) hh)
    rw [hh] at HH
    rw [putY_no hh, putD_no hh]
    go_enter Try.func12, Try.ntmps12
    go_wp2_with fail
    refine HH.out.mono ?_
    rintro e w' ⟨rfl, rfl⟩
    go_wp2
    go_ret
    exact ⟨ret_int H.out, t, Fr.refl _⟩
  · rw [hh] at HH
    obtain ⟨k, rfl, hk⟩ := hasB_iff.1 hh
    obtain ⟨m, hm, hsz⟩ := big_size (P := Try.prog) (t := 59) (s := 10) (by kernel_rfl)
    have hm0 : ¬ m = 0 := by omega
    have hq : k / 10 < pages n := by unfold pages; omega
    have hj : k % 10 < 10 := Nat.mod_lt _ (by decide)
    have hkj : k / 10 * 10 + k % 10 = k := by omega
    have hL := leafOf_length t.hy hq
    have HG : Hid (getT n ys k = (leafOf ys (k / 10)).getD (k % 10) 0) := Lib.hid (by rw [leafOf_get hj, hkj]; exact getT_nat hk)
    have HE : Hid ((((leafOf ys (k / 10)).set (k % 10) p) == leafOf ys (k / 10)) = decide (getT n ys k = p)) := Lib.hid (by rw [HG.out]; exact set_ne (by omega))
    have HY : Hid (lay ys (k / 10 * 10) ((leafOf ys (k / 10)).set (k % 10) p) = putY n ys k p) := Lib.hid (by rw [leafOf_lay t.hy hq hj, hkj, putY_nat hk])
    have HYl : Hid ((putY n ys k p).length = ys.length) := Lib.hid (by rw [putY_nat hk]; simp)
    have HD1 : Hid (getT n ys k = p → putD n ys ds k p = ds ∧ putY n ys k p = ys) := Lib.hid (fun h => ⟨putD_same h, by rw [putY_nat hk, ← h, getT_nat hk]; exact set_self _ _⟩)
    have HD2 : Hid (getT n ys k ≠ p → putD n ys ds k p = ds.set (k / 10) true) := Lib.hid (fun h => putD_nat hk h)
    have hRg : w.rangeAt g (k / 10 * m) (is (leafOf ys (k / 10))) := t.lv.range _ _ fun j v hv => by rw [hm]; exact leafOf_at hv
    have hw : wrap64 ((k : Int) / 10) = ((k / 10 : Nat) : Int) := by rw [show ((k : Int) / 10) = ((k / 10 : Nat) : Int) by omega]; exact wrap64_nat (by have := t.hn; omega)
    have HM := Lib.hid hm
    have hcmp := fun w' => tl_equal w' ((leafOf ys (k / 10)).set (k % 10) p) (leafOf ys (k / 10)) (by rw [List.length_set]; exact hL) hL
    have hgd := guard_tleaf
    rw [HE.out] at hcmp
    have HT := Lib.hid t
    have hld := big_load0 Try.prog g (k / 10 * m) (is (leafOf ys (k / 10))) m (by rw [is_length, hL, hm]) w hRg
    obtain ⟨c1, c2⟩ := t.rows
    have hpi : ((k / 10 : Nat) : Int) < (pages n : Int) := by omega
    have HLl := Lib.hid hL
    have HK := Lib.hid (And.intro hq (And.intro hj hkj))
    generalize hLf : leafOf ys (k / 10) = L at *
    have HLf := Lib.hid hLf
    clear hm hLf hRg t hL hq hkj HE
    generalize hV : getT n ys (k : Int) = V at *
    have HV := Lib.hid hV
    clear hV hh hk
    by_cases hVp : V = p
    · rw [decide_eq_true hVp] at hcmp
      obtain ⟨e1, e2⟩ := HD1.out hVp
      rw [e1, e2]
      clear e1 e2 HD1 HD2 hVp HY HYl
      go_enter Try.func12, Try.ntmps12
      go_wp2_with fail
      refine HH.out.mono ?_
      rintro e w' ⟨rfl, rfl⟩
      go_wp2_with (first
        | ((with_reducible refine wpList_tl_alloc (o := ⟨some 9, .alloc _, _, _, _, _⟩) rfl rfl ?_); intro w1 x1 hB1 hs1; have K1 := Lib.hid hB1; clear hB1 hs1)
        | ((with_reducible refine wpList_tl_store (o := ⟨none, .store _ _ _, _, _, _, _⟩) rfl _ _ rfl w.heap.size L z10 HLl.out rfl rfl rfl x1 ?_); intro w2 x2 hg2 hs2; have l2 := big_load0 Try.prog w.heap.size 0 (is L) m (by rw [is_length, HLl.out, HM.out]) _ x2.range0; have K2 := Lib.hid (And.intro x2 (below_stored K1.out hg2 K1.out.size (Nat.le_refl _))); clear x1 x2 hg2 hs2 K1)
        | ((with_reducible refine wpList_tl_alloc (o := ⟨some 10, .alloc _, _, _, _, _⟩) rfl rfl ?_); intro w3 x3 hB3 hs3; have K3 := Lib.hid hB3; clear hB3 hs3)
        | ((with_reducible refine wpList_tl_store (o := ⟨none, .store _ _ _, _, _, _, _⟩) rfl _ _ rfl w2.heap.size L z10 HLl.out rfl rfl rfl x3 ?_); intro w4 x4 hg4 hs4; have K4 := Lib.hid (And.intro x4 (below_stored K3.out hg4 K3.out.size (Nat.le_refl _))); clear x3 hg4 hs4 K3 l2; obtain ⟨⟨x9, hB2⟩, x10, hB24⟩ := And.intro K2.out K4.out; have HB := Lib.hid (hB2.trans (hB24.mono hB2.size)); have T4 := Lib.hid (HT.out.on HB.out); have HB10 := Lib.hid hB2.size; have HN9 := Lib.hid (Nat.ne_of_lt x9.lt); have HX9 := Lib.hid (x9.below hB24 x9.lt); have HX10 := Lib.hid x10; have HF5 := Lib.hid ((Fr.of_below (T := TbT g h) (hB2.trans (hB24.mono hB2.size))).andThen (U := fun x => x = w2.heap.size) (Fr.of_setCell w4 ⟨w2.heap.size, k % 10, none⟩ (.int .i64 p) rfl) (fun b hb hu => absurd hB2.size (by omega))); have hdl := Lib.hid (And.intro HT.out.tb.lt (And.intro HT.out.lv.lt HT.out.dt.lt)); clear K2 K4 x9 x10 hB2 hB24; generalize w.heap.size = b9 at *; generalize w2.heap.size = b10 at *; have HN : Hid (d ≠ b10 ∧ g ≠ b10 ∧ h ≠ b10) := Lib.hid (by have := hdl.out; have := HB10.out; omega); have c10 := (HX10.out.cell (k % 10)).trans (is_get (by rw [HLl.out]; exact HK.out.2.1)); have f10 := HX10.out.frozen (k % 10); have HX5 : Hid (Box (w4.setCell ⟨b10, k % 10, none⟩ (.int .i64 p)) b10 59 (is (L.set (k % 10) p))) := Lib.hid (by rw [is_set]; exact HX10.out.set _ _); have HY5 : Hid (Box (w4.setCell ⟨b10, k % 10, none⟩ (.int .i64 p)) b9 59 (is L)) := Lib.hid (HX9.out.same (Below.heap_setCell _ _ _ _ (fun e => HN9.out e))); have l10 := big_load0 Try.prog b10 0 (is (L.set (k % 10) p)) m (by rw [is_length, List.length_set, HLl.out, HM.out]) _ HX5.out.range0; have l9 := big_load0 Try.prog b9 0 (is L) m (by rw [is_length, HLl.out, HM.out]) _ HY5.out.range0; have c9 := (HY5.out.cell (k % 10)).trans (is_get (by rw [HLl.out]; exact HK.out.2.1)); rw [← HG.out] at c9; have T5 : Hid (TbIs (w4.setCell ⟨b10, k % 10, none⟩ (.int .i64 p)) d g h n ys ds) := Lib.hid ⟨T4.out.tb.same (Below.heap_setCell _ _ _ _ (fun e => HN.out.1 e)), T4.out.lv.same (Below.heap_setCell _ _ _ _ (fun e => HN.out.2.1 e)), T4.out.dt.same (Below.heap_setCell _ _ _ _ (fun e => HN.out.2.2 e)), T4.out.hn, T4.out.hy, T4.out.hd⟩; have c4 := T4.out.rows; obtain ⟨c41, c42⟩ := c4; clear c1 c2 hld)
        | fail)
      go_wp2
      go_ret
      exact ⟨rfl, T5.out, HF5.out⟩
    · rw [decide_eq_false hVp] at hcmp
      have e1 := HD2.out hVp
      rw [e1]
      clear e1 HD1 HD2 hVp
      go_enter Try.func12, Try.ntmps12
      go_wp2_with fail
      refine HH.out.mono ?_
      rintro e w' ⟨rfl, rfl⟩
      go_wp2_with (first
        | ((with_reducible refine wpList_tl_alloc (o := ⟨some 9, .alloc _, _, _, _, _⟩) rfl rfl ?_); intro w1 x1 hB1 hs1; have K1 := Lib.hid hB1; clear hB1 hs1)
        | ((with_reducible refine wpList_tl_store (o := ⟨none, .store _ _ _, _, _, _, _⟩) rfl _ _ rfl w.heap.size L z10 HLl.out rfl rfl rfl x1 ?_); intro w2 x2 hg2 hs2; have l2 := big_load0 Try.prog w.heap.size 0 (is L) m (by rw [is_length, HLl.out, HM.out]) _ x2.range0; have K2 := Lib.hid (And.intro x2 (below_stored K1.out hg2 K1.out.size (Nat.le_refl _))); clear x1 x2 hg2 hs2 K1)
        | ((with_reducible refine wpList_tl_alloc (o := ⟨some 10, .alloc _, _, _, _, _⟩) rfl rfl ?_); intro w3 x3 hB3 hs3; have K3 := Lib.hid hB3; clear hB3 hs3)
        | ((with_reducible refine wpList_tl_store (o := ⟨none, .store _ _ _, _, _, _, _⟩) rfl _ _ rfl w2.heap.size L z10 HLl.out rfl rfl rfl x3 ?_); intro w4 x4 hg4 hs4; have K4 := Lib.hid (And.intro x4 (below_stored K3.out hg4 K3.out.size (Nat.le_refl _))); clear x3 hg4 hs4 K3 l2; obtain ⟨⟨x9, hB2⟩, x10, hB24⟩ := And.intro K2.out K4.out; have HB := Lib.hid (hB2.trans (hB24.mono hB2.size)); have T4 := Lib.hid (HT.out.on HB.out); have HB10 := Lib.hid hB2.size; have HN9 := Lib.hid (Nat.ne_of_lt x9.lt); have HX9 := Lib.hid (x9.below hB24 x9.lt); have HX10 := Lib.hid x10; have HF5 := Lib.hid ((Fr.of_below (T := TbT g h) (hB2.trans (hB24.mono hB2.size))).andThen (U := fun x => x = w2.heap.size) (Fr.of_setCell w4 ⟨w2.heap.size, k % 10, none⟩ (.int .i64 p) rfl) (fun b hb hu => absurd hB2.size (by omega))); have hdl := Lib.hid (And.intro HT.out.tb.lt (And.intro HT.out.lv.lt HT.out.dt.lt)); clear K2 K4 x9 x10 hB2 hB24; generalize w.heap.size = b9 at *; generalize w2.heap.size = b10 at *; have HN : Hid (d ≠ b10 ∧ g ≠ b10 ∧ h ≠ b10) := Lib.hid (by have := hdl.out; have := HB10.out; omega); have c10 := (HX10.out.cell (k % 10)).trans (is_get (by rw [HLl.out]; exact HK.out.2.1)); have f10 := HX10.out.frozen (k % 10); have HX5 : Hid (Box (w4.setCell ⟨b10, k % 10, none⟩ (.int .i64 p)) b10 59 (is (L.set (k % 10) p))) := Lib.hid (by rw [is_set]; exact HX10.out.set _ _); have HY5 : Hid (Box (w4.setCell ⟨b10, k % 10, none⟩ (.int .i64 p)) b9 59 (is L)) := Lib.hid (HX9.out.same (Below.heap_setCell _ _ _ _ (fun e => HN9.out e))); have l10 := big_load0 Try.prog b10 0 (is (L.set (k % 10) p)) m (by rw [is_length, List.length_set, HLl.out, HM.out]) _ HX5.out.range0; have l9 := big_load0 Try.prog b9 0 (is L) m (by rw [is_length, HLl.out, HM.out]) _ HY5.out.range0; have c9 := (HY5.out.cell (k % 10)).trans (is_get (by rw [HLl.out]; exact HK.out.2.1)); rw [← HG.out] at c9; have T5 : Hid (TbIs (w4.setCell ⟨b10, k % 10, none⟩ (.int .i64 p)) d g h n ys ds) := Lib.hid ⟨T4.out.tb.same (Below.heap_setCell _ _ _ _ (fun e => HN.out.1 e)), T4.out.lv.same (Below.heap_setCell _ _ _ _ (fun e => HN.out.2.1 e)), T4.out.dt.same (Below.heap_setCell _ _ _ _ (fun e => HN.out.2.2 e)), T4.out.hn, T4.out.hy, T4.out.hd⟩; have c4 := T4.out.rows; obtain ⟨c41, c42⟩ := c4; clear c1 c2 hld)
        | fail)
      go_wp2
      have HQ9 : Hid (b9 ≠ g ∧ b9 ≠ h) := Lib.hid (by have := hdl.out; omega)
      clear c10 f10 HX9 HX10 HB HN9 T4 l9 c9 hcmp x4
      generalize w4.setCell ⟨b10, k % 10, none⟩ (.int .i64 p) = w5 at *
      obtain ⟨c1, c2⟩ := T5.out.rows
      have l10 := big_load0 Try.prog b10 0 (is (L.set (k % 10) p)) m (by rw [is_length, List.length_set, HLl.out, HM.out]) w5.drew HX5.out.range0
      have LL : (L.set (k % 10) p).length = 10 := by rw [List.length_set]; exact HLl.out
      have YL : k / 10 * m + 10 ≤ ys.length := by rw [T5.out.hy, HM.out]; have := HK.out.1; omega
      have HYm : Hid (lay ys (k / 10 * m) (L.set (k % 10) p) = putY n ys k p) := Lib.hid (by rw [HM.out]; exact HY.out)
      have XL : Box w5.drew g 59 (is ys) := T5.out.lv
      go_still_tail 6, (by kernel_rfl)
      change wpList _ _ _ _ _ w5.drew
      go_wp2_with (first
        | ((with_reducible refine wpList_tl_lay (o := ⟨none, .store _ _ _, _, _, _, _⟩) rfl _ _ rfl g (k / 10 * m) (L.set (k % 10) p) ys LL YL rfl rfl XL ?_); go_loud (rw [HYm.out]; intro w6 x6 hg6 hs6; have T6 := Lib.hid (T5.out.drew.setLv (w := w5.drew) x6 hg6 HYl.out); have F6 := Lib.hid ((HF5.out.drew).trans (Fr.of_grown (T := TbT g h) hg6 (fun k e => by injection e with e; exact .inl e.symm))); have Y6 := Lib.hid (Box.grown (w := w5.drew) HY5.out hg6 HQ9.out.1); clear x6 hg6 hs6 T5 HF5 HY5 HY HYm HYl YL XL c1 c2 l10 c41 c42; obtain ⟨c1, c2⟩ := T6.out.rows; have cf := T6.out.flag HK.out.1; have ff := T6.out.dt.frozen (k / 10); have T7 := Lib.hid (T6.out.setDt (k / 10) true); have F7 := Lib.hid (F6.out.setCell ⟨h, k / 10, none⟩ (.bool true) (.inr rfl)); have c9 := ((Y6.out.same (Below.heap_setCell w6 ⟨h, k / 10, none⟩ (.bool true) _ HQ9.out.2)).cell (k % 10)).trans (is_get (by rw [HLl.out]; exact HK.out.2.1)); rw [← HG.out] at c9))
        | fail)
      go_ret
      exact ⟨rfl, T7.out, F7.out⟩
end Go.Proofs.Ytcligeajgbibnaa

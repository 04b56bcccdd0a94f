/-
  Layer 9's answers: Leaves.
-/
import Derived.Test.YtcligeajgbibnaaTbJ
namespace Go.Proofs.Ytcligeajgbibnaa
open Go.RowKit Leaf Tbl
set_option linter.unusedVariables false

theorem elemL : Elem Try.prog 37 50 (.agg (lcs lf0).toArray) 12 96 := Elem.of Try.underlying37 (by kernel_rfl) rfl (by decide)
theorem wpList_lf_build2L {w : World} {ops : Array Oper} {rest : List Oper} {o : Oper} {a : Act} {Q : Exit → Act → World → Prop} (hgd : o.guard = none) (x0 x1 : Operand) (ho : o.op = .build 50 #[(0, x0), (1, x1)]) (g i : Int) (L : List Value) (hL : L = lcs ⟨g, i, z10⟩) (h0 : a.eval x0 = .int .i64 g) (h1 : a.eval x1 = .int .i64 i)
    (h : wpList Try.prog ops Q rest (a.put o.dst (.agg L.toArray)) w) : wpList Try.prog ops Q (o :: rest) a w := by
  subst hL
  exact wpList_lf_build2 hgd x0 x1 ho g i h0 h1 h
theorem wpList_lf_slice1 {w : World} {ops : Array Oper} {rest : List Oper} {o : Oper} {a : Act} {Q : Exit → Act → World → Prop} (hgd : o.guard = none) (x : Operand) (ho : o.op = .buildSlice 37 1 #[(0, x)]) (L : List Value) (hL : L.length = 12) (hx : a.eval x = .agg L.toArray)
    (h : wpList Try.prog ops Q rest (a.put o.dst (.slice (some ⟨w.heap.size, 0, none⟩) 1 1)) (w.alloc (.cells L.toArray 50))) : wpList Try.prog ops Q (o :: rest) a w := by
  refine wpList_plain hgd fun K hK => ?_
  have hr := run_buildSlice_one (P := Try.prog) w elemL (by decide) L hL
  unfold Oper.wp
  simp [execOp, ho, hx, hr, Result.andThen]
  exact hK _ _ h
theorem own_place {w : World} {base : Nat} {P : Nat} {Y : List Int} {gen x : Int} {g c q j : Nat} (hown : w.ownsRow base 50 12 (.slice (some ⟨g, 0, none⟩) P c) P (lfls (lfsOf Y gen P))) (hY : Y.length = 10 * P) (hq : q < P) (hj : j < 10) (hi : ∀ l ∈ lfsOf Y gen P, In l) :
    (∃ u, w.cell? ⟨g, q * 12 + 2 + j, none⟩ = some u) ∧ w.frozen? ⟨g, q * 12 + 2 + j, none⟩ = false ∧
    (w.setCell ⟨g, q * 12 + 2 + j, none⟩ (.int .i64 x)).ownsRow base 50 12 (.slice (some ⟨g, 0, none⟩) P c) P (lfls (lfsOf (Y.set (q * 10 + j) x) gen P)) ∧ w.grownBy (w.setCell ⟨g, q * 12 + 2 + j, none⟩ (.int .i64 x)) (some g) := by
  have hl : (lfls (lfsOf Y gen P)).length = P * 12 := by rw [lfls_length hi, lfsOf_length]
  have h1 := hown.cellAt (q * 12 + 2 + j) (by omega)
  have h2 := hown.frozenAt (q * 12 + 2 + j)
  obtain ⟨h3, h4⟩ := hown.stored (q * 12 + 2 + j) (.int .i64 x)
  refine ⟨⟨_, h1.trans (List.getElem?_eq_getElem (by omega))⟩, h2, ?_, h4⟩
  rw [lfls_place hi (lfsOf_get hq) hj] at h3
  rw [← lfsOf_set hj hq]
  exact h3
/-- what the walk needs ahead of the store of one place, and what it leaves -/
theorem own_place2 {w0 w : World} {v : Value} {P k mr : Nat} {Y : List Int} {gen x : Int} (hm : mr = 12) (hown : w.ownsRow w0.heap.size 50 12 v P (lfls (lfsOf Y gen P))) (hbl : Below w0.heap.size w0 w) (hY : Y.length = 10 * P) (hq : k / 10 < P) (hi : ∀ l ∈ lfsOf Y gen P, In l) :
    ∃ g c u, v = .slice (some ⟨g, 0, none⟩) P c ∧ w.cell? ⟨g, k / 10 * mr + 2 + k % 10, none⟩ = some u ∧ w.frozen? ⟨g, k / 10 * mr + 2 + k % 10, none⟩ = false ∧
      (w.setCell ⟨g, k / 10 * mr + 2 + k % 10, none⟩ (.int .i64 x)).ownsRow w0.heap.size 50 12 (.slice (some ⟨g, 0, none⟩) P c) P (lfls (lfsOf (Y.set k x) gen P)) ∧ Below w0.heap.size w0 (w.setCell ⟨g, k / 10 * mr + 2 + k % 10, none⟩ (.int .i64 x)) := by
  subst hm
  obtain ⟨g, c, rfl, hgb, hgl⟩ := hown.form (by omega)
  obtain ⟨⟨u, h1⟩, h2, h3, h4⟩ := own_place (x := x) hown hY hq (j := k % 10) (Nat.mod_lt _ (by decide)) hi
  rw [show k / 10 * 10 + k % 10 = k by omega] at h3
  exact ⟨g, c, u, rfl, h1, h2, h3, below_stored hbl h4 hbl.size hgb⟩
set_option maxRecDepth 100000 in
theorem rleaves_any (A : Option Addr) (len cap : Nat) (xs : List Int) (gen : Int) (w : World) (hn : len ≤ 5000) (hx : xs.length = len) (hr : Rd w w.heap.size A (is xs)) :
    Calls Try.prog 23 #[.slice A len cap, .int .i64 gen] w fun e w' => ∃ V, e = .returned V ∧ w'.ownsRow w.heap.size 50 12 V (pages len) (lfls (lfsOf (padT xs) gen (pages len))) ∧ Below w.heap.size w w' := by
  obtain ⟨mr, hmr, hszr⟩ := big_size (P := Try.prog) (t := 50) (s := 12) (by kernel_rfl)
  have hmr0 : ¬ mr = 0 := by omega
  have hmr1 : ¬ 16777216 < mr := by omega
  have HM := Lib.hid hmr
  have HX := Lib.hid hx
  have HR := Lib.hid hr
  clear hmr hx hr
  go_enter Try.func23, Try.ntmps23
  go_wp2
  go_loopw [5, 6] (fun o i wr => ∃ k : Nat, k ≤ len ∧ i = .int .i64 k ∧ wr.ownsRow w.heap.size 50 12 o (pages k) (lfls (lfsOf (padT (xs.take k)) gen (pages k))) ∧ Below w.heap.size w wr) (fun _ i _ => len - (intOf i).toNat)
  case atStart => exact ⟨0, by omega, rfl, World.ownsRow_nil _ _ _ _, Below.refl _ _⟩
  case round =>
    obtain ⟨k, hk, rfl, hown, hbl⟩ := hrel
    by_cases hlt : k < len
    · have hxl : k < xs.length := by rw [HX.out]; exact hlt
      obtain ⟨ad, rfl, _, hc⟩ := (HR.out.below hbl).at (is_get hxl)
      have hki : (k : Int) < (len : Int) := by omega
      have htl : (padT (xs.take k)).length = 10 * pages k := by rw [padT_length]; congr 2; rw [List.length_take]; omega
      have hsz' := hbl.size
      have hw : wrap64 ((k : Int) / 10) = ((k / 10 : Nat) : Int) := by rw [show ((k : Int) / 10) = ((k / 10 : Nat) : Int) by omega]; exact wrap64_nat (by omega)
      by_cases h0 : k % 10 = 0
      · have hs0 := padT_step0 h0 hxl
        have hsn := lfsOf_snoc (gen := gen) htl
        have h0b : ((k : Int) % 10 == 0) = true := by simp; omega
        obtain ⟨L0, hL0⟩ : ∃ L0, L0 = lcs ⟨gen, (k : Int) / 10, z10⟩ := ⟨_, rfl⟩
        have hL12 : L0.length = 12 := by rw [hL0]; exact lcs_length (by simp [In])
        have hL1c : ∀ u ∈ L0, u.oneCell' = true := by rw [hL0]; exact lcs_one _
        have HL0 := Lib.hid (And.intro hL12 (And.intro hL1c hL0))
        clear hL12 hL1c hL0
        obtain ⟨hp0, hp1⟩ := pages_step0 h0
        have HP := Lib.hid (And.intro hp0 (And.intro hp1 h0))
        rw [hp0] at hown hsn htl
        rw [show ((k / 10 : Nat) : Int) = (k : Int) / 10 by omega] at hsn
        have HS := Lib.hid (And.intro hs0 (And.intro hsn htl))
        have HK10 : Hid (k ≤ 5000) := Lib.hid (by omega)
        clear hs0 hsn htl hp0 hp1
        generalize hx : xs.getD k 0 = x at *
        have HXx : Hid (xs.getD k 0 = x) := Lib.hid hx
        clear hx
        generalize hCc : lfls (lfsOf (padT (xs.take k)) gen (k / 10)) = C at *
        have HCc := Lib.hid hCc
        clear hCc
        go_wp2_with (first
          | (at_builtin; go_loud (refine wpList_append_new _ rfl _ _ _ rfl w.heap.size 50 _ 12 96 elemL u5 _ _ rfl L0 rfl hown HL0.out.1 HL0.out.2.1 (by have := HK10.out; simp only [maxLen]; omega) (by have := HK10.out; omega) hsz' ?_); intro v1 w1 hown1 hg1; have HO := Lib.hid (And.intro hown1 (hbl.grown hg1 hsz' fun g hg => (hown.lt g hg).1)); clear hown1 hg1)
          | ((with_reducible refine wpList_lf_build2L (o := ⟨some 20, .build _ _, _, _, _, _⟩) rfl _ _ rfl gen ((k : Int) / 10) L0 HL0.out.2.2 rfl rfl ?_))
          | ((with_reducible refine wpList_lf_slice1 (o := ⟨some 21, .buildSlice _ _ _, _, _, _, _⟩) rfl _ rfl L0 HL0.out.1 rfl ?_))
          | fail)
        have HQ : Hid ((padT (xs.take k) ++ z10).length = 10 * (k / 10 + 1) ∧ k / 10 < k / 10 + 1 ∧ (∀ l ∈ lfsOf (padT (xs.take k) ++ z10) gen (k / 10 + 1), In l) ∧ (padT (xs.take k) ++ z10).set k x = padT (xs.take (k + 1))) := Lib.hid (by
          have e1 : (padT (xs.take k) ++ z10).length = 10 * (k / 10 + 1) := by rw [List.length_append, HS.out.2.2]; simp; omega
          refine ⟨e1, by omega, ?_, HS.out.1⟩
          rw [← HP.out.2.1]
          exact lfsOf_in (by rw [HP.out.2.1]; exact e1))
        have HPp := Lib.hid HP.out.2.1
        have HO : Hid (w1.ownsRow w.heap.size 50 12 v1 (k / 10 + 1) (lfls (lfsOf (padT (xs.take k) ++ z10) gen (k / 10 + 1))) ∧ Below w.heap.size w w1) := Lib.hid (by
          refine ⟨?_, HO.out.2⟩
          rw [← HS.out.2.1, lfls_append, HCc.out, lfls_cons, ← HL0.out.2.2]
          simpa [lfls] using HO.out.1)
        clear hc hown hbl hsz' h0 h0b
        obtain ⟨g, c, u, rfl, cu, fu, hst, hbs⟩ := own_place2 (k := k) (x := x) HM.out HO.out.1 HO.out.2 HQ.out.1 HQ.out.2.1 HQ.out.2.2.1
        obtain ⟨ad2, e2, _, hc1⟩ := (HR.out.below HO.out.2).at (is_get hxl)
        obtain rfl : ad = ad2 := by injection e2
        rw [HXx.out] at hc1
        rw [HQ.out.2.2.2] at hst
        have hqi : ((k / 10 : Nat) : Int) < ((k / 10 + 1 : Nat) : Int) := by have := HQ.out.2.1; omega
        have HST := Lib.hid (And.intro hst hbs)
        clear hst hbs HO e2
        go_region
        all_goals go_wp2
        all_goals go_roundw
        case rel => exact ⟨k + 1, by omega, by go_num, by rw [HPp.out]; exact HST.out.1, HST.out.2.drew⟩
        case measure => simp [intOf]; omega
      · have hs0 := padT_step1 h0 hxl
        have h0b : ((k : Int) % 10 == 0) = false := by simp; omega
        have HPp := Lib.hid (pages_step1 h0).1
        have hpq := (pages_step1 h0).2
        generalize hx : xs.getD k 0 = x at *
        have HXx : Hid (xs.getD k 0 = x) := Lib.hid hx
        clear hx
        have HQ : Hid ((padT (xs.take k)).length = 10 * pages k ∧ k / 10 < pages k ∧ (∀ l ∈ lfsOf (padT (xs.take k)) gen (pages k), In l) ∧ (padT (xs.take k)).set k x = padT (xs.take (k + 1))) := Lib.hid ⟨htl, hpq, lfsOf_in htl, hs0⟩
        have HO := Lib.hid (And.intro hown hbl)
        clear hs0 hpq htl hown hbl hc hsz'
        go_wp2
        obtain ⟨g, c, u, rfl, cu, fu, hst, hbs⟩ := own_place2 (k := k) (x := x) HM.out HO.out.1 HO.out.2 HQ.out.1 HQ.out.2.1 HQ.out.2.2.1
        obtain ⟨ad2, e2, _, hc1⟩ := (HR.out.below HO.out.2).at (is_get hxl)
        obtain rfl : ad = ad2 := by injection e2
        rw [HXx.out] at hc1
        rw [HQ.out.2.2.2] at hst
        have hqi : ((k / 10 : Nat) : Int) < ((pages k : Nat) : Int) := by have := HQ.out.2.1; omega
        have HST := Lib.hid (And.intro hst hbs)
        clear hst hbs HO e2
        go_region
        all_goals go_wp2
        all_goals go_roundw
        case rel => exact ⟨k + 1, by omega, by go_num, by rw [HPp.out]; exact HST.out.1, HST.out.2.drew⟩
        case measure => simp [intOf]; omega
    · obtain rfl : len = k := by omega
      have HO := Lib.hid (And.intro hown hbl)
      clear hown hbl
      go_wp2
      go_ret
      refine ⟨_, rfl, ?_, HO.out.2⟩
      have := HO.out.1
      rwa [List.take_of_length_le (by rw [HX.out]; exact Nat.le_refl _)] at this
end Go.Proofs.Ytcligeajgbibnaa

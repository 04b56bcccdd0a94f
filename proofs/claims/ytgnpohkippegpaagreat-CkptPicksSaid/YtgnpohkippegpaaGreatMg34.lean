/-
  TbJ TbK TbL
-/
import Derived.Test.YtgnpohkippegpaaGreatMg33
/-
  Layer 9's answers: Leaves.
-/
namespace Go.Proofs.YtgnpohkippegpaaGreat
open Go.RowKit Leaf Tbl
set_option linter.unusedVariables false

theorem lfls_set {ls : List Lf} (h : ∀ l ∈ ls, In l) {q : Nat} {l' : Lf} (hl' : In l') (hq : q < ls.length) : lfls (ls.set q l') = lay (lfls ls) (q * 12) (lcs l') := by
  have e : ls = ls.take q ++ (ls[q] :: ls.drop (q + 1)) := by rw [← List.drop_eq_getElem_cons hq, List.take_append_drop]
  have e2 : ls.set q l' = ls.take q ++ (l' :: ls.drop (q + 1)) := by
    conv => lhs; rw [e]
    rw [List.set_append_right _ _ (by rw [List.length_take]; omega), show q - (ls.take q).length = 0 by simp; omega, List.set_cons_zero]
  rw [e2, lfls_append, lfls_cons]
  conv => rhs; rw [e, lfls_append, lfls_cons]
  rw [lay_mid ?_ ?_]
  · rw [lfls_length (fun x hx => h x (List.mem_of_mem_take hx)), List.length_take]
    congr 1
    omega
  · rw [lcs_length hl', lcs_length (h _ (List.getElem_mem hq))]
theorem lfls_drop {ls : List Lf} (h : ∀ l ∈ ls, In l) {q : Nat} {l : Lf} (hl : ls[q]? = some l) : ((lfls ls).drop (q * 12)).take 12 = lcs l := by
  have hil := lcs_length (h l (List.mem_of_getElem? hl))
  obtain ⟨hq, _⟩ := List.getElem?_eq_some_iff.1 hl
  apply List.ext_getElem?
  intro j
  rw [List.getElem?_take]
  by_cases hj : j < 12
  · rw [if_pos hj, List.getElem?_drop, lfls_at h hl (v := (lcs l)[j]'(by omega)) (by simp [hil, hj])]
    simp [hil, hj]
  · rw [if_neg hj]
    exact (List.getElem?_eq_none (by omega)).symm
/-- one place of one leaf is turned -/
theorem lfls_place {ls : List Lf} (h : ∀ l ∈ ls, In l) {q j : Nat} {l : Lf} {x : Int} (hl : ls[q]? = some l) (hj : j < 10) : (lfls ls).set (q * 12 + 2 + j) (.int .i64 x) = lfls (ls.set q { l with places := l.places.set j x }) := by
  have hil := h l (List.mem_of_getElem? hl)
  obtain ⟨hq, _⟩ := List.getElem?_eq_some_iff.1 hl
  have hi2 : In { l with places := l.places.set j x } := by
    unfold In at hil ⊢
    rw [List.length_set]
    exact hil
  rw [lfls_set h hi2 hq, ← lcs_set, Nat.add_assoc, lay_set]
  · rw [lcs_length hil, lfls_length h]
    omega
  · rw [lcs_length hil]
    exact lfls_drop h hl
  · rw [lcs_length hil]
    omega
namespace Tbl
theorem leafOf_get? (Y : List Int) (q i : Nat) : (leafOf Y q)[i]? = if i < 10 then Y[q * 10 + i]? else none := by
  unfold leafOf
  rw [List.getElem?_take, List.getElem?_drop]
theorem leafOf_set_same {Y : List Int} {q j : Nat} {x : Int} (hj : j < 10) : leafOf (Y.set (q * 10 + j) x) q = (leafOf Y q).set j x := by
  apply List.ext_getElem?
  intro i
  by_cases hi : i < 10
  · rw [leafOf_get?, if_pos hi]
    by_cases e : j = i
    · subst e
      by_cases hY : q * 10 + j < Y.length
      · rw [List.getElem?_set_self hY, List.getElem?_set_self (by simp [leafOf]; omega)]
      · rw [List.getElem?_eq_none (by rw [List.length_set]; omega), List.getElem?_eq_none (by rw [List.length_set]; simp [leafOf]; omega)]
    · rw [List.getElem?_set_ne (by omega), List.getElem?_set_ne e, leafOf_get?, if_pos hi]
  · rw [leafOf_get?, if_neg hi]
    exact (List.getElem?_eq_none (by rw [List.length_set]; simp [leafOf]; omega)).symm
theorem leafOf_set_other {Y : List Int} {q q' j : Nat} {x : Int} (hj : j < 10) (hq : q' ≠ q) : leafOf (Y.set (q * 10 + j) x) q' = leafOf Y q' := by
  apply List.ext_getElem?
  intro i
  rw [leafOf_get?, leafOf_get?]
  by_cases hi : i < 10
  · rw [if_pos hi, if_pos hi, List.getElem?_set_ne (by omega)]
  · rw [if_neg hi, if_neg hi]
/-- places with zeros behind, up to whole leaves -/
def padT (xs : List Int) : List Int := xs ++ List.replicate (10 * pages xs.length - xs.length) 0
theorem padT_length (xs : List Int) : (padT xs).length = 10 * pages xs.length := by
  have := pages_up xs.length
  simp [padT]
  omega
theorem padT_low {xs : List Int} {k : Nat} (h : k < xs.length) : (padT xs)[k]? = xs[k]? := by
  unfold padT
  rw [List.getElem?_append_left h]
theorem padT_high {xs : List Int} {k : Nat} (h : xs.length ≤ k) (h2 : k < 10 * pages xs.length) : (padT xs)[k]? = some 0 := by
  unfold padT
  rw [List.getElem?_append_right h, List.getElem?_replicate, if_pos (by omega)]
theorem padT_take (xs : List Int) : (padT xs).take xs.length = xs := by simp [padT]
theorem lfsOf_set {Y : List Int} {gen x : Int} {q j P : Nat} (hj : j < 10) (hq : q < P) : (lfsOf Y gen P).set q { lfOf Y gen q with places := (leafOf Y q).set j x } = lfsOf (Y.set (q * 10 + j) x) gen P := by
  apply List.ext_getElem?
  intro i
  by_cases hi : i < P
  · rw [lfsOf_get hi]
    by_cases e : q = i
    · subst e
      rw [List.getElem?_set_self (by rw [lfsOf_length]; exact hi)]
      unfold lfOf
      rw [leafOf_set_same hj]
    · rw [List.getElem?_set_ne e, lfsOf_get hi]
      unfold lfOf
      rw [leafOf_set_other hj (fun h => e h.symm)]
  · rw [List.getElem?_eq_none (by rw [List.length_set, lfsOf_length]; omega), List.getElem?_eq_none (by rw [lfsOf_length]; omega)]
theorem lfsOf_snoc {Y : List Int} {gen : Int} {P : Nat} (hY : Y.length = 10 * P) : lfsOf Y gen P ++ [⟨gen, P, z10⟩] = lfsOf (Y ++ z10) gen (P + 1) := by
  unfold lfsOf
  rw [List.range_succ, List.map_append]
  congr 1
  · apply List.map_congr_left
    intro q hq
    have hq : q < P := by simpa using hq
    unfold lfOf leafOf
    rw [List.drop_append_of_le_length (by omega), List.take_append_of_le_length (by rw [List.length_drop]; omega)]
  · unfold lfOf leafOf
    rw [List.map_cons, List.map_nil, List.drop_append, List.drop_eq_nil_of_le (by omega), show P * 10 - Y.length = 0 by omega]
    rfl
theorem pages_step0 {k : Nat} (h : k % 10 = 0) : pages k = k / 10 ∧ pages (k + 1) = k / 10 + 1 := by unfold pages; omega
theorem pages_step1 {k : Nat} (h : ¬ k % 10 = 0) : pages (k + 1) = pages k ∧ k / 10 < pages k := by unfold pages; omega
theorem padT_step0 {xs : List Int} {k : Nat} (h : k % 10 = 0) (hk : k < xs.length) : (padT (xs.take k) ++ z10).set k (xs.getD k 0) = padT (xs.take (k + 1)) := by
  have hl : (xs.take k).length = k := by rw [List.length_take]; omega
  have hl1 : (xs.take (k + 1)).length = k + 1 := by rw [List.length_take]; omega
  have hp0 : 10 * pages k = k := by unfold pages; omega
  have hp1 : 10 * pages (k + 1) = k + 10 := by unfold pages; omega
  have e0 : padT (xs.take k) = xs.take k := by unfold padT; rw [hl, hp0, Nat.sub_self, List.replicate_zero, List.append_nil]
  rw [e0]
  apply List.ext_getElem?
  intro i
  rcases (show i < k ∨ i = k ∨ (k < i ∧ i < k + 10) ∨ k + 10 ≤ i by omega) with hi | hi | ⟨h1, h2⟩ | hi
  · rw [List.getElem?_set_ne (by omega), List.getElem?_append_left (by omega), padT_low (by omega), List.getElem?_take, List.getElem?_take, if_pos hi, if_pos (by omega)]
  · subst hi
    rw [List.getElem?_set_self (by rw [List.length_append, hl]; simp), padT_low (by omega), List.getElem?_take, if_pos (by omega)]
    simp [List.getD_eq_getElem?_getD, hk]
  · rw [List.getElem?_set_ne (by omega), padT_high (by omega) (by rw [hl1]; omega), List.getElem?_append_right (by omega), hl, List.getElem?_replicate, if_pos (by omega)]
  · rw [List.getElem?_eq_none (by rw [List.length_set, List.length_append, hl]; simp; omega), List.getElem?_eq_none (by rw [padT_length, hl1]; omega)]
theorem padT_step1 {xs : List Int} {k : Nat} (h : ¬ k % 10 = 0) (hk : k < xs.length) : (padT (xs.take k)).set k (xs.getD k 0) = padT (xs.take (k + 1)) := by
  have hl : (xs.take k).length = k := by rw [List.length_take]; omega
  have hl1 : (xs.take (k + 1)).length = k + 1 := by rw [List.length_take]; omega
  have hp : pages (k + 1) = pages k := (pages_step1 h).1
  have hp1 : k < 10 * pages k := by unfold pages; omega
  apply List.ext_getElem?
  intro i
  rcases (show i < k ∨ i = k ∨ (k < i ∧ i < 10 * pages k) ∨ 10 * pages k ≤ i by omega) with hi | hi | ⟨h1, h2⟩ | hi
  · rw [List.getElem?_set_ne (by omega), padT_low (by omega), padT_low (by omega), List.getElem?_take, List.getElem?_take, if_pos hi, if_pos (by omega)]
  · subst hi
    rw [List.getElem?_set_self (by rw [padT_length, hl]; exact hp1), padT_low (by omega), List.getElem?_take, if_pos (by omega)]
    simp [List.getD_eq_getElem?_getD, hk]
  · rw [List.getElem?_set_ne (by omega), padT_high (xs := xs.take k) (by omega) (by rw [hl]; omega), padT_high (xs := xs.take (k + 1)) (by omega) (by rw [hl1, hp]; omega)]
  · rw [List.getElem?_eq_none (by rw [List.length_set, padT_length, hl]; omega), List.getElem?_eq_none (by rw [padT_length, hl1, hp]; omega)]
end Tbl
theorem padT_in (xs : List Int) (gen : Int) : ∀ l ∈ lfsOf (padT xs) gen (pages xs.length), In l := lfsOf_in (padT_length xs)
end Go.Proofs.YtgnpohkippegpaaGreat

/-
  Layer 9's answers: Leaves.
-/
namespace Go.Proofs.YtgnpohkippegpaaGreat
open Go.RowKit Leaf Tbl
set_option linter.unusedVariables false

theorem elemL : Elem Tryz.prog 83 86 (.agg (lcs lf0).toArray) 12 96 := Elem.of Tryz.underlying83 (by kernel_rfl) rfl (by decide)
theorem wpList_lf_build2L {w : World} {ops : Array Oper} {rest : List Oper} {o : Oper} {a : Act} {Q : Exit → Act → World → Prop} (hgd : o.guard = none) (x0 x1 : Operand) (ho : o.op = .build 86 #[(0, x0), (1, x1)]) (g i : Int) (L : List Value) (hL : L = lcs ⟨g, i, z10⟩) (h0 : a.eval x0 = .int .i64 g) (h1 : a.eval x1 = .int .i64 i)
    (h : wpList Tryz.prog ops Q rest (a.put o.dst (.agg L.toArray)) w) : wpList Tryz.prog ops Q (o :: rest) a w := by
  subst hL
  exact wpList_lf_build2 hgd x0 x1 ho g i h0 h1 h
theorem wpList_lf_slice1 {w : World} {ops : Array Oper} {rest : List Oper} {o : Oper} {a : Act} {Q : Exit → Act → World → Prop} (hgd : o.guard = none) (x : Operand) (ho : o.op = .buildSlice 83 1 #[(0, x)]) (L : List Value) (hL : L.length = 12) (hx : a.eval x = .agg L.toArray)
    (h : wpList Tryz.prog ops Q rest (a.put o.dst (.slice (some ⟨w.heap.size, 0, none⟩) 1 1)) (w.alloc (.cells L.toArray 86))) : wpList Tryz.prog ops Q (o :: rest) a w := by
  refine wpList_plain hgd fun K hK => ?_
  have hr := run_buildSlice_one (P := Tryz.prog) w elemL (by decide) L hL
  unfold Oper.wp
  simp [execOp, ho, hx, hr, Result.andThen]
  exact hK _ _ h
theorem own_place {w : World} {base : Nat} {P : Nat} {Y : List Int} {gen x : Int} {g c q j : Nat} (hown : w.ownsRow base 86 12 (.slice (some ⟨g, 0, none⟩) P c) P (lfls (lfsOf Y gen P))) (hY : Y.length = 10 * P) (hq : q < P) (hj : j < 10) (hi : ∀ l ∈ lfsOf Y gen P, In l) :
    (∃ u, w.cell? ⟨g, q * 12 + 2 + j, none⟩ = some u) ∧ w.frozen? ⟨g, q * 12 + 2 + j, none⟩ = false ∧
    (w.setCell ⟨g, q * 12 + 2 + j, none⟩ (.int .i64 x)).ownsRow base 86 12 (.slice (some ⟨g, 0, none⟩) P c) P (lfls (lfsOf (Y.set (q * 10 + j) x) gen P)) ∧ w.grownBy (w.setCell ⟨g, q * 12 + 2 + j, none⟩ (.int .i64 x)) (some g) := by
  have hl : (lfls (lfsOf Y gen P)).length = P * 12 := by rw [lfls_length hi, lfsOf_length]
  have h1 := hown.cellAt (q * 12 + 2 + j) (by omega)
  have h2 := hown.frozenAt (q * 12 + 2 + j)
  obtain ⟨h3, h4⟩ := hown.stored (q * 12 + 2 + j) (.int .i64 x)
  refine ⟨⟨_, h1.trans (List.getElem?_eq_getElem (by omega))⟩, h2, ?_, h4⟩
  rw [lfls_place hi (lfsOf_get hq) hj] at h3
  rw [← lfsOf_set hj hq]
  exact h3
/-- what the walk needs ahead of the store of one place, and what it leaves -/
theorem own_place2 {w0 w : World} {v : Value} {P k mr : Nat} {Y : List Int} {gen x : Int} (hm : mr = 12) (hown : w.ownsRow w0.heap.size 86 12 v P (lfls (lfsOf Y gen P))) (hbl : Below w0.heap.size w0 w) (hY : Y.length = 10 * P) (hq : k / 10 < P) (hi : ∀ l ∈ lfsOf Y gen P, In l) :
    ∃ g c u, v = .slice (some ⟨g, 0, none⟩) P c ∧ w.cell? ⟨g, k / 10 * mr + 2 + k % 10, none⟩ = some u ∧ w.frozen? ⟨g, k / 10 * mr + 2 + k % 10, none⟩ = false ∧
      (w.setCell ⟨g, k / 10 * mr + 2 + k % 10, none⟩ (.int .i64 x)).ownsRow w0.heap.size 86 12 (.slice (some ⟨g, 0, none⟩) P c) P (lfls (lfsOf (Y.set k x) gen P)) ∧ Below w0.heap.size w0 (w.setCell ⟨g, k / 10 * mr + 2 + k % 10, none⟩ (.int .i64 x)) := by
  subst hm
  obtain ⟨g, c, rfl, hgb, hgl⟩ := hown.form (by omega)
  obtain ⟨⟨u, h1⟩, h2, h3, h4⟩ := own_place (x := x) hown hY hq (j := k % 10) (Nat.mod_lt _ (by decide)) hi
  rw [show k / 10 * 10 + k % 10 = k by omega] at h3
  exact ⟨g, c, u, rfl, h1, h2, h3, below_stored hbl h4 hbl.size hgb⟩
set_option maxRecDepth 100000 in
theorem rleaves_any (A : Option Addr) (len cap : Nat) (xs : List Int) (gen : Int) (w : World) (hn : len ≤ 5000) (hx : xs.length = len) (hr : Rd w w.heap.size A (is xs)) :
    Calls Tryz.prog 65 #[.slice A len cap, .int .i64 gen] w fun e w' => ∃ V, e = .returned V ∧ w'.ownsRow w.heap.size 86 12 V (pages len) (lfls (lfsOf (padT xs) gen (pages len))) ∧ Below w.heap.size w w' := by
  obtain ⟨mr, hmr, hszr⟩ := big_size (P := Tryz.prog) (t := 86) (s := 12) (by kernel_rfl)
  have hmr0 : ¬ mr = 0 := by omega
  have hmr1 : ¬ 16777216 < mr := by omega
  have HM := Lib.hid hmr
  have HX := Lib.hid hx
  have HR := Lib.hid hr
  clear hmr hx hr
  go_enter Tryz.func65, Tryz.ntmps65
  go_wp2
  go_loopw [5, 6] (fun o i wr => ∃ k : Nat, k ≤ len ∧ i = .int .i64 k ∧ wr.ownsRow w.heap.size 86 12 o (pages k) (lfls (lfsOf (padT (xs.take k)) gen (pages k))) ∧ Below w.heap.size w wr) (fun _ i _ => len - (intOf i).toNat)
  case atStart => exact ⟨0, by omega, rfl, World.ownsRow_nil _ _ _ _, Below.refl _ _⟩
  case round =>
    obtain ⟨k, hk, rfl, hown, hbl⟩ := hrel
    by_cases hlt : k < len
    · have hxl : k < xs.length := by rw [HX.out]; exact hlt
      obtain ⟨ad, rfl, _, hc⟩ := (HR.out.below hbl).at (is_get hxl)
      have hki : (k : Int) < (len : Int) := by omega
      have htl : (padT (xs.take k)).length = 10 * pages k := by rw [padT_length]; congr 2; rw [List.length_take]; omega
      have hsz' := hbl.size
      have hw : wrap64 ((k : Int) / 10) = ((k / 10 : Nat) : Int) := by rw [show ((k : Int) / 10) = ((k / 10 : Nat) : Int) by omega]; exact wrap64_nat (by omega)
      by_cases h0 : k % 10 = 0
      · have hs0 := padT_step0 h0 hxl
        have hsn := lfsOf_snoc (gen := gen) htl
        have h0b : ((k : Int) % 10 == 0) = true := by simp; omega
        obtain ⟨L0, hL0⟩ : ∃ L0, L0 = lcs ⟨gen, (k : Int) / 10, z10⟩ := ⟨_, rfl⟩
        have hL12 : L0.length = 12 := by rw [hL0]; exact lcs_length (by simp [In])
        have hL1c : ∀ u ∈ L0, u.oneCell' = true := by rw [hL0]; exact lcs_one _
        have HL0 := Lib.hid (And.intro hL12 (And.intro hL1c hL0))
        clear hL12 hL1c hL0
        obtain ⟨hp0, hp1⟩ := pages_step0 h0
        have HP := Lib.hid (And.intro hp0 (And.intro hp1 h0))
        rw [hp0] at hown hsn htl
        rw [show ((k / 10 : Nat) : Int) = (k : Int) / 10 by omega] at hsn
        have HS := Lib.hid (And.intro hs0 (And.intro hsn htl))
        have HK10 : Hid (k ≤ 5000) := Lib.hid (by omega)
        clear hs0 hsn htl hp0 hp1
        generalize hx : xs.getD k 0 = x at *
        have HXx : Hid (xs.getD k 0 = x) := Lib.hid hx
        clear hx
        generalize hCc : lfls (lfsOf (padT (xs.take k)) gen (k / 10)) = C at *
        have HCc := Lib.hid hCc
        clear hCc
        go_wp2_with (first
          | (at_builtin; go_loud (refine wpList_append_new _ rfl _ _ _ rfl w.heap.size 86 _ 12 96 elemL u5 _ _ rfl L0 rfl hown HL0.out.1 HL0.out.2.1 (by have := HK10.out; simp only [maxLen]; omega) (by have := HK10.out; omega) hsz' ?_); intro v1 w1 hown1 hg1; have HO := Lib.hid (And.intro hown1 (hbl.grown hg1 hsz' fun g hg => (hown.lt g hg).1)); clear hown1 hg1)
          | ((with_reducible refine wpList_lf_build2L (o := ⟨some 20, .build _ _, _, _, _, _⟩) rfl _ _ rfl gen ((k : Int) / 10) L0 HL0.out.2.2 rfl rfl ?_))
          | ((with_reducible refine wpList_lf_slice1 (o := ⟨some 21, .buildSlice _ _ _, _, _, _, _⟩) rfl _ rfl L0 HL0.out.1 rfl ?_))
          | fail)
        have HQ : Hid ((padT (xs.take k) ++ z10).length = 10 * (k / 10 + 1) ∧ k / 10 < k / 10 + 1 ∧ (∀ l ∈ lfsOf (padT (xs.take k) ++ z10) gen (k / 10 + 1), In l) ∧ (padT (xs.take k) ++ z10).set k x = padT (xs.take (k + 1))) := Lib.hid (by
          have e1 : (padT (xs.take k) ++ z10).length = 10 * (k / 10 + 1) := by rw [List.length_append, HS.out.2.2]; simp; omega
          refine ⟨e1, by omega, ?_, HS.out.1⟩
          rw [← HP.out.2.1]
          exact lfsOf_in (by rw [HP.out.2.1]; exact e1))
        have HPp := Lib.hid HP.out.2.1
        have HO : Hid (w1.ownsRow w.heap.size 86 12 v1 (k / 10 + 1) (lfls (lfsOf (padT (xs.take k) ++ z10) gen (k / 10 + 1))) ∧ Below w.heap.size w w1) := Lib.hid (by
          refine ⟨?_, HO.out.2⟩
          rw [← HS.out.2.1, lfls_append, HCc.out, lfls_cons, ← HL0.out.2.2]
          simpa [lfls] using HO.out.1)
        clear hc hown hbl hsz' h0 h0b
        obtain ⟨g, c, u, rfl, cu, fu, hst, hbs⟩ := own_place2 (k := k) (x := x) HM.out HO.out.1 HO.out.2 HQ.out.1 HQ.out.2.1 HQ.out.2.2.1
        obtain ⟨ad2, e2, _, hc1⟩ := (HR.out.below HO.out.2).at (is_get hxl)
        obtain rfl : ad = ad2 := by injection e2
        rw [HXx.out] at hc1
        rw [HQ.out.2.2.2] at hst
        have hqi : ((k / 10 : Nat) : Int) < ((k / 10 + 1 : Nat) : Int) := by have := HQ.out.2.1; omega
        have HST := Lib.hid (And.intro hst hbs)
        clear hst hbs HO e2
        go_region
        all_goals go_wp2
        all_goals go_roundw
        case rel => exact ⟨k + 1, by omega, by go_num, by rw [HPp.out]; exact HST.out.1, HST.out.2.drew⟩
        case measure => simp [intOf]; omega
      · have hs0 := padT_step1 h0 hxl
        have h0b : ((k : Int) % 10 == 0) = false := by simp; omega
        have HPp := Lib.hid (pages_step1 h0).1
        have hpq := (pages_step1 h0).2
        generalize hx : xs.getD k 0 = x at *
        have HXx : Hid (xs.getD k 0 = x) := Lib.hid hx
        clear hx
        have HQ : Hid ((padT (xs.take k)).length = 10 * pages k ∧ k / 10 < pages k ∧ (∀ l ∈ lfsOf (padT (xs.take k)) gen (pages k), In l) ∧ (padT (xs.take k)).set k x = padT (xs.take (k + 1))) := Lib.hid ⟨htl, hpq, lfsOf_in htl, hs0⟩
        have HO := Lib.hid (And.intro hown hbl)
        clear hs0 hpq htl hown hbl hc hsz'
        go_wp2
        obtain ⟨g, c, u, rfl, cu, fu, hst, hbs⟩ := own_place2 (k := k) (x := x) HM.out HO.out.1 HO.out.2 HQ.out.1 HQ.out.2.1 HQ.out.2.2.1
        obtain ⟨ad2, e2, _, hc1⟩ := (HR.out.below HO.out.2).at (is_get hxl)
        obtain rfl : ad = ad2 := by injection e2
        rw [HXx.out] at hc1
        rw [HQ.out.2.2.2] at hst
        have hqi : ((k / 10 : Nat) : Int) < ((pages k : Nat) : Int) := by have := HQ.out.2.1; omega
        have HST := Lib.hid (And.intro hst hbs)
        clear hst hbs HO e2
        go_region
        all_goals go_wp2
        all_goals go_roundw
        case rel => exact ⟨k + 1, by omega, by go_num, by rw [HPp.out]; exact HST.out.1, HST.out.2.drew⟩
        case measure => simp [intOf]; omega
    · obtain rfl : len = k := by omega
      have HO := Lib.hid (And.intro hown hbl)
      clear hown hbl
      go_wp2
      go_ret
      refine ⟨_, rfl, ?_, HO.out.2⟩
      have := HO.out.1
      rwa [List.take_of_length_le (by rw [HX.out]; exact Nat.le_refl _)] at this
end Go.Proofs.YtgnpohkippegpaaGreat

/-
  Layer 9's answers: Do.
-/
namespace Go.Proofs.YtgnpohkippegpaaGreat
open Go.RowKit Leaf Tbl
set_option linter.unusedVariables false

namespace Tbl
/-- a Put: block, place, clean -/
structure Pt where
  b : Int
  p : Int
  c : Bool
def insS (n : Int) (s : List Int × Bool) (d : Int) : List Int × Bool :=
  let s1 := if n ≤ d ∧ s.2 = false then (s.1 ++ [n], true) else s
  if d = n then s1 else (s1.1 ++ [d], s1.2)
def insT (n : Int) (ds : List Int) (k : Nat) : List Int × Bool := (ds.take k).foldl (insS n) ([], false)
def insK (n : Int) (ds : List Int) : List Int := if (insT n ds ds.length).2 = true then (insT n ds ds.length).1 else (insT n ds ds.length).1 ++ [n]
def cleanD (c : Bool) (ds : List Int) : List Int := if c = true then [] else ds
def doX (xs : List Int) (t : Pt) : List Int := if hasB xs.length t.b = true then xs.set t.b.toNat t.p else xs
def doD (xs ds : List Int) (t : Pt) : List Int := if hasB xs.length t.b = true ∧ xs.getD t.b.toNat 0 ≠ t.p then insK (t.b / 10) (cleanD t.c ds) else cleanD t.c ds
def doW (xs : List Int) (t : Pt) : Int := if hasB xs.length t.b = true then xs.getD t.b.toNat 0 else 0
theorem insT_zero (n : Int) (ds : List Int) : insT n ds 0 = ([], false) := rfl
theorem insT_succ {n : Int} {ds : List Int} {k : Nat} (h : k < ds.length) : insT n ds (k + 1) = insS n (insT n ds k) (ds.getD k 0) := by
  unfold insT
  rw [List.take_succ_eq_append_getElem h, List.foldl_append]
  simp [List.getD_eq_getElem?_getD, h]
theorem insS_le (n : Int) (s : List Int × Bool) (d : Int) : (insS n s d).1.length ≤ s.1.length + 2 := by
  unfold insS
  split <;> split <;> simp <;> omega
theorem insT_le (n : Int) (ds : List Int) (k : Nat) (h : k ≤ ds.length) : (insT n ds k).1.length ≤ 2 * k := by
  induction k with
  | zero => simp [insT_zero]
  | succ k ih =>
    rw [insT_succ (by omega)]
    have := insS_le n (insT n ds k) (ds.getD k 0)
    have := ih (by omega)
    omega
/-- the ways of one step -/
theorem insS_a {n d : Int} {l : List Int} (h : n ≤ d) (h2 : ¬ d = n) : insS n (l, false) d = (l ++ [n] ++ [d], true) := by simp [insS, h, h2]
theorem insS_b {n : Int} {l : List Int} : insS n (l, false) n = (l ++ [n], true) := by simp [insS]
theorem insS_c {n d : Int} {l : List Int} (h : ¬ n ≤ d) : insS n (l, false) d = (l ++ [d], false) := by
  have h2 : ¬ d = n := by omega
  simp [insS, h, h2]
theorem insS_d {n d : Int} {l : List Int} (h2 : ¬ d = n) : insS n (l, true) d = (l ++ [d], true) := by simp [insS, h2]
theorem insS_e {n : Int} {l : List Int} : insS n (l, true) n = (l, true) := by simp [insS]
end Tbl
def pcs (t : Pt) : List Value := [.int .i64 t.b, .int .i64 t.p, .bool t.c]
/-- a slice that is answered: the one that came in, or none, or a new one -/
def OutR (w w' : World) (A : Option Addr) (xs : List Int) (A1 : Option Addr) (xs' : List Int) : Prop :=
  Rd w' w'.heap.size A1 (is xs') ∧ ((A1 = A ∧ xs' = xs) ∨ xs' = [] ∨ ∃ ad, A1 = some ad ∧ w.heap.size ≤ ad.block)
theorem OutR.same {w w' : World} {A : Option Addr} {xs : List Int} (h : Rd w w.heap.size A (is xs)) (hb : Below w.heap.size w w') : OutR w w' A xs A xs := ⟨(h.below hb).more hb.size, .inl ⟨rfl, rfl⟩⟩
theorem OutR.nil {w w' : World} {A A1 : Option Addr} {xs : List Int} : OutR w w' A xs A1 [] := ⟨Rd.empty, .inr (.inl rfl)⟩
theorem OutR.own {w w' : World} {A A1 : Option Addr} {xs xs' : List Int} {c : Nat} (h : w'.ownsRow w.heap.size 3 1 (.slice A1 xs'.length c) xs'.length (is xs')) : OutR w w' A xs A1 xs' := by
  refine ⟨Rd.own h, ?_⟩
  rcases Nat.eq_zero_or_pos xs'.length with h0 | h0
  · exact .inr (.inl (List.eq_nil_of_length_eq_zero h0))
  · obtain ⟨g, rfl, hg, _⟩ := own_at h h0
    exact .inr (.inr ⟨_, rfl, hg⟩)
/-- what Do answers -/
def DoPost (w w' : World) (A A2 : Option Addr) (xs ds : List Int) (t : Pt) (e : Ending) : Prop :=
  ∃ A1 c1 A3 c3, e = .returned (.tuple #[.slice A1 xs.length c1, .slice A3 (doD xs ds t).length c3, .int .i64 (doW xs t)]) ∧ OutR w w' A xs A1 (doX xs t) ∧ OutR w w' A2 ds A3 (doD xs ds t) ∧ Below w.heap.size w w'

end Go.Proofs.YtgnpohkippegpaaGreat

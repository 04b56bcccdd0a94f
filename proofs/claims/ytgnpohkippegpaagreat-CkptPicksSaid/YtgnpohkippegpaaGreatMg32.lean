/-
  TbE TbF TbG
-/
import Derived.Test.YtgnpohkippegpaaGreatMg31
/-
  Package table: Places, Dirty, Leaves.
-/
namespace Go.Proofs.YtgnpohkippegpaaGreat
open Go.RowKit Leaf Tbl
set_option linter.unusedVariables false

theorem elemI : Elem Tryz.prog 50 3 (.int .i64 0) 1 8 := Elem.of Tryz.underlying50 (by kernel_rfl) rfl (by decide)
theorem is_append (a b : List Int) : is (a ++ b) = is a ++ is b := by simp [is]
theorem is_one1 (x : Int) : is [x] = [.int .i64 x] := rfl
set_option maxRecDepth 100000 in
theorem tplaces_any {d g h n : Nat} {ys : List Int} {ds : List Bool} (w : World) (t : TbIs w d g h n ys ds) :
    Calls Tryz.prog 17 #[tp d] w fun e w' => ∃ b, e = .returned (rowAt b n) ∧ Box w' b 3 (is (ys.take n)) ∧ w.heap.size ≤ b ∧ Below w.heap.size w w' := by
  have c0 := t.num
  have HT := Lib.hid t
  have hn := t.hn
  have hyn : n ≤ ys.length := by rw [t.hy]; exact pages_up n
  have HY := Lib.hid (show (ys.take n).length = n by simp; omega)
  have hmk := fun w' => make_ints w' n (by omega)
  have HS : Hid (∀ k, k < n → getT n ys k = (ys.take n).getD k 0) := Lib.hid fun k hk => by
    rw [getT_nat hk, List.getD_eq_getElem?_getD, List.getD_eq_getElem?_getD, List.getElem?_take, if_pos hk]
  clear t hyn
  generalize ys.take n = zs at *
  go_enter Tryz.func17, Tryz.ntmps17
  go_wp2
  have HB := Lib.hid (Box.new w 3 (is (List.replicate n 0)))
  have HL := Lib.hid ((Below.refl w.heap.size w).alloc (Nat.le_refl _) (.cells (is (List.replicate n 0)).toArray 3 (0, 0)))
  generalize hW : w.alloc (.cells (is (List.replicate n 0)).toArray 3) = w1 at *
  clear hW hmk
  generalize hb : w.heap.size = b at *
  have Hb := Lib.hid hb
  clear hb
  go_loopw [12] (fun i wr => ∃ k : Nat, k ≤ n ∧ i = .int .i64 k ∧ Box wr b 3 (is (mix zs (List.replicate n 0) k)) ∧ Below b w wr) (fun i _ => n - (intOf i).toNat)
  case atStart => exact ⟨0, by omega, rfl, by rw [mix_zero]; exact HB.out, HL.out⟩
  case round =>
    clear HB HL
    obtain ⟨k, hk, rfl, hbx, hbl⟩ := hrel
    by_cases hlt : k < n
    · have HV := Lib.hid (HS.out k hlt)
      have HX := Lib.hid hbx
      have HBl := Lib.hid hbl
      have HT2 := Lib.hid (HT.out.on (by rw [Hb.out]; exact hbl))
      have HG := Lib.hid (tget_any wr k HT2.out)
      have hml : (mix zs (List.replicate n 0) k).length = n := by rw [mix_length (by simp [HY.out]) (by simpa using hk)]; simp
      have ck := (hbx.cell k).trans (is_get (by rw [hml]; exact hlt))
      have fk := hbx.frozen k
      have HX2 : Hid (Box (wr.setCell ⟨b, k, none⟩ (.int .i64 (getT n ys k))) b 3 (is (mix zs (List.replicate n 0) (k + 1)))) := Lib.hid (by
        rw [← mix_set (by simp [HY.out]) (by simpa using hlt), is_set, HV.out]
        exact hbx.set _ _)
      have HB2 : Hid (Below b w (wr.setCell ⟨b, k, none⟩ (.int .i64 (getT n ys k)))) := Lib.hid (hbl.setCell (Nat.le_refl _) _)
      clear hbx hbl hml HV
      generalize getT n ys (k : Int) = V at *
      go_wp2_with fail
      refine HG.out.mono ?_
      rintro e w' ⟨rfl, rfl⟩
      go_wp2
      go_roundw
      case rel => exact ⟨k + 1, by omega, by go_num, HX2.out, HB2.out⟩
      case measure => simp [intOf]; omega
    · obtain rfl : n = k := by omega
      have HX := Lib.hid hbx
      have HBl := Lib.hid hbl
      clear hbx hbl
      go_wp2
      go_ret
      refine ⟨b, rfl, ?_, by rw [Hb.out]; exact Nat.le_refl _, by rw [Hb.out]; exact HBl.out⟩
      have := HX.out
      rwa [mix_all (by simp [HY.out]) (by simp)] at this
end Go.Proofs.YtgnpohkippegpaaGreat

/-
  Package table: Leaves.
-/
namespace Go.Proofs.YtgnpohkippegpaaGreat
open Go.RowKit Leaf Tbl
set_option linter.unusedVariables false

section
variable {w : World} {ops : Array Oper} {rest : List Oper} {o : Oper} {a : Act} {Q : Exit → Act → World → Prop}
theorem wpList_lf_build3 (hgd : o.guard = none) (x0 x1 x2 : Operand) (ho : o.op = .build 86 #[(0, x0), (1, x1), (2, x2)]) (l : Lf) (hl : In l) (h0 : a.eval x0 = .int .i64 l.gen) (h1 : a.eval x1 = .int .i64 l.index) (h2 : a.eval x2 = .agg (is l.places).toArray)
    (h : wpList Tryz.prog ops Q rest (a.put o.dst (.agg (lcs l).toArray)) w) : wpList Tryz.prog ops Q (o :: rest) a w := by
  refine wpList_plain hgd fun K hK => ?_
  unfold Oper.wp
  simp [execOp, ho, h0, h1, h2, run_build_leaf3 w l hl, Result.andThen]
  exact hK _ _ h
theorem wpList_lf_lay (hgd : o.guard = none) (x y : Operand) (ho : o.op = .store 86 x y) (g off : Nat) (l : Lf) (cs : List Value) (hr : In l) (hl : off + 12 ≤ cs.length) (hx : a.eval x = .pointer (some ⟨g, off, none⟩)) (hy : a.eval y = .agg (lcs l).toArray) (hb : Box w g 86 cs)
    (h : ∀ w', Box w' g 86 (lay cs off (lcs l)) → w.grownBy w' (some g) → w'.heap.size = w.heap.size → wpList Tryz.prog ops Q rest (a.put o.dst undef) w') : wpList Tryz.prog ops Q (o :: rest) a w :=
  wpList_store_midbox w hgd _ x y ho g off _ cs (lcs l) (lf_size hr) (by rw [lcs_length hr]; exact hl) (lcs_one l) hx hy hb h
end
set_option maxRecDepth 100000 in
theorem tleaves_any {d g h n : Nat} {ys : List Int} {ds : List Bool} (w : World) (gen : Int) (t : TbIs w d g h n ys ds) :
    Calls Tryz.prog 49 #[tp d, .int .i64 gen] w fun e w' => ∃ b, e = .returned (rowAt b (pages n)) ∧ Box w' b 86 (lfls (lfsOf ys gen (pages n))) ∧ w.heap.size ≤ b ∧ Below w.heap.size w w' := by
  obtain ⟨c1, c2⟩ := t.rows
  obtain ⟨m, hm, hsz⟩ := big_size (P := Tryz.prog) (t := 101) (s := 10) (by kernel_rfl)
  obtain ⟨mr, hmr, hszr⟩ := big_size (P := Tryz.prog) (t := 86) (s := 12) (by kernel_rfl)
  have hm0 : ¬ m = 0 := by omega
  have hmr0 : ¬ mr = 0 := by omega
  have HM := Lib.hid (And.intro hm hmr)
  have HT := Lib.hid t
  have hp := pages_le t.hn
  have hmk := fun w' => make_lfs w' (pages n) (by omega)
  have HI := Lib.hid (lfsOf_in (gen := gen) t.hy)
  have HLn := Lib.hid (lfsOf_length ys gen (pages n))
  have HLg := Lib.hid fun (q : Nat) (hq : q < pages n) => lfsOf_get (ys := ys) (gen := gen) hq
  have HZ := Lib.hid (show lfls (List.replicate (pages n) lf0) = lfls (lfTo (lfsOf ys gen (pages n)) 0) by rw [lfTo_zero, lfsOf_length])
  clear hm hmr t
  generalize hP : pages n = P at *
  have HP := Lib.hid hP
  clear hP
  generalize hLs : lfsOf ys gen P = ls at *
  have HLs := Lib.hid hLs
  clear hLs
  generalize hC : lfls (List.replicate P lf0) = C0 at *
  have c1a : (w.alloc (.cells C0.toArray 86)).cell? ⟨d, 1, none⟩ = some (rowAt g P) := by
    have := (HT.out.on ((Below.refl w.heap.size w).alloc (Nat.le_refl _) (.cells C0.toArray 86 (0, 0)))).rows.1
    rwa [HP.out] at this
  go_enter Tryz.func49, Tryz.ntmps49
  go_wp2
  have HB := Lib.hid (Box.new w 86 C0)
  have HL := Lib.hid ((Below.refl w.heap.size w).alloc (Nat.le_refl _) (.cells C0.toArray 86 (0, 0)))
  generalize hW : w.alloc (.cells C0.toArray 86) = w1 at *
  clear hW hmk hC c1a
  generalize hb : w.heap.size = b at *
  have Hb := Lib.hid hb
  clear hb
  go_loopw [19] (fun i wr => ∃ k : Nat, k ≤ P ∧ i = .int .i64 k ∧ Box wr b 86 (lfls (lfTo ls k)) ∧ Below b w wr) (fun i _ => P - (intOf i).toNat)
  case atStart => exact ⟨0, by omega, rfl, by rw [← HZ.out]; exact HB.out, HL.out⟩
  case round =>
    clear HB HL HZ
    obtain ⟨k, hk, rfl, hbx, hbl⟩ := hrel
    by_cases hlt : k < P
    · have HT2 := Lib.hid (HT.out.on (by rw [Hb.out]; exact hbl))
      have hql : leafOf ys k = (lfOf ys gen k).places := rfl
      have HK : Hid (ls[k]? = some (lfOf ys gen k)) := Lib.hid (HLg.out k hlt)
      have HLi : Hid (In ⟨gen, (k : Int), leafOf ys k⟩) := Lib.hid (HI.out _ (List.mem_of_getElem? HK.out))
      have hRg : wr.rangeAt g (k * m) (is (leafOf ys k)) := HT2.out.lv.range _ _ fun j v hv => by rw [HM.out.1]; exact leafOf_at hv
      have HL10 : Hid ((leafOf ys k).length = 10) := Lib.hid HLi.out
      have hld := big_load0 Tryz.prog g (k * m) (is (leafOf ys k)) m (by rw [is_length, HL10.out, HM.out.1]) wr hRg
      have HX := Lib.hid hbx
      have HBl := Lib.hid hbl
      have HCl : Hid (k * mr + 12 ≤ (lfls (lfTo ls k)).length) := Lib.hid (by rw [lfls_length (lfTo_in HI.out k), lfTo_length (by rw [HLn.out]; exact hk), HLn.out, HM.out.2]; omega)
      have HLay : Hid (lay (lfls (lfTo ls k)) (k * mr) (lcs ⟨gen, (k : Int), leafOf ys k⟩) = lfls (lfTo ls (k + 1))) := Lib.hid (by rw [HM.out.2]; exact lfTo_lay HI.out HK.out)
      have hbs : b ≤ wr.heap.size := by rw [← Hb.out]; exact HBl.out.size
      have hki : (k : Int) < (P : Int) := by omega
      clear hbx hbl hRg hql
      generalize leafOf ys k = L at *
      generalize lfls (lfTo ls k) = C at *
      go_wp2_with (first
        | ((with_reducible refine wpList_tl_alloc (o := ⟨some 7, .alloc _, _, _, _, _⟩) rfl rfl ?_); intro w2 x2 hB2 hs2; have K2 := Lib.hid hB2; clear hB2 hs2)
        | ((with_reducible refine wpList_tl_store (o := ⟨none, .store 101 _ _, _, _, _, _⟩) rfl _ _ rfl wr.heap.size L z10 HL10.out rfl rfl rfl x2 ?_); go_loud (intro w3 x3 hg3 hs3; have l3 := big_load0 Tryz.prog wr.heap.size 0 (is L) m (by rw [is_length, HL10.out, HM.out.1]) _ x3.range0; have K3 := Lib.hid (below_stored K2.out hg3 K2.out.size (Nat.le_refl _)); have X3 := Lib.hid (HX.out.below K3.out HX.out.lt); have B3 := Lib.hid (And.intro (HBl.out.trans (K3.out.mono hbs)) (Nat.le_trans hbs K3.out.size)); clear x2 x3 hg3 hs3 K2 K3 HX HBl hbs; generalize wr.heap.size = bv at *))
        | ((with_reducible refine wpList_lf_build3 (o := ⟨some 29, .build _ _, _, _, _, _⟩) rfl _ _ _ rfl ⟨gen, (k : Int), L⟩ HLi.out rfl rfl rfl ?_))
        | ((with_reducible refine wpList_lf_lay (o := ⟨none, .store 86 _ _, _, _, _, _⟩) rfl _ _ rfl b (k * mr) ⟨gen, (k : Int), L⟩ C HLi.out HCl.out rfl rfl X3.out ?_); go_loud (intro w4 x4 hg4 hs4; rw [HLay.out] at x4; have X4 := Lib.hid (And.intro x4 (below_stored B3.out.1 hg4 B3.out.2 (Nat.le_refl _))); clear x4 hg4 hs4 B3 X3))
        | fail)
      go_roundw
      case rel => exact ⟨k + 1, by omega, by go_num, X4.out⟩
      case measure => simp [intOf]; omega
    · obtain rfl : P = k := by omega
      have HX := Lib.hid hbx
      have HBl := Lib.hid hbl
      clear hbx hbl
      go_wp2
      go_ret
      refine ⟨b, rfl, ?_, by rw [Hb.out]; exact Nat.le_refl _, by rw [Hb.out]; exact HBl.out⟩
      have := HX.out
      have e : ls.length = P := HLn.out
      subst e
      rwa [lfTo_all] at this
end Go.Proofs.YtgnpohkippegpaaGreat

/-
  Package table: fits.
-/
namespace Go.Proofs.YtgnpohkippegpaaGreat
open Go.RowKit Leaf Tbl
set_option linter.unusedVariables false

namespace Tbl
/-- may this place stand at number j of leaf q? -/
abbrev okP (n q j : Nat) (p : Int) : Prop := 0 ≤ p ∧ (0 < p → q * 10 + j < n)
def Fits (n : Nat) (l : Lf) : Prop := 0 ≤ l.index ∧ l.index < (pages n : Int) ∧ ∀ j, j < 10 → okP n l.index.toNat j (l.places.getD j 0)
theorem fits_dec (n : Nat) (l : Lf) : Fits n l ↔ (0 ≤ l.index ∧ l.index < (pages n : Int) ∧ ((List.range 10).all fun j => decide (okP n l.index.toNat j (l.places.getD j 0))) = true) := by
  unfold Fits
  simp only [List.all_eq_true, List.mem_range, decide_eq_true_eq]
instance (n : Nat) (l : Lf) : Decidable (Fits n l) := decidable_of_iff _ (fits_dec n l).symm
def fitsB (n : Nat) (l : Lf) : Bool := decide (Fits n l)
end Tbl
set_option maxRecDepth 100000 in
theorem tfits_any {d g h n : Nat} {ys : List Int} {ds : List Bool} (w : World) (l : Lf) (hi : In l) (t : TbIs w d g h n ys ds) :
    Calls Tryz.prog 102 #[tp d, .agg (lcs l).toArray] w fun e w' => e = .returned (.bool (fitsB n l)) ∧ Below w.heap.size w w' := by
  obtain ⟨m, hm, hsz⟩ := big_size (P := Tryz.prog) (t := 84) (s := 10) (by kernel_rfl)
  obtain ⟨mr, hmr, hszr⟩ := big_size (P := Tryz.prog) (t := 86) (s := 12) (by kernel_rfl)
  have hm0 : ¬ m = 0 := by omega
  have hmr0 : ¬ mr = 0 := by omega
  have HM := Lib.hid (And.intro hm hmr)
  have hbx := Box.new w 86 (lcs l)
  have hB := (Below.refl w.heap.size w).alloc (Nat.le_refl _) (.cells (lcs l).toArray 86 (0, 0))
  obtain ⟨x0, x1⟩ := hbx.lf
  have hld := big_load0 Tryz.prog w.heap.size 2 (is l.places) m (by unfold In at hi; rw [is_length, hi, hm]) _ hbx.lfPlaces
  have HI := Lib.hid fun w' (k : Nat) (hk : k < 10) => run_index_is w' 84 3 10 l.places k Tryz.underlying84 Tryz.underlying3 size_int hi hk
  have HF := Lib.hid (show ∀ b : Bool, (b = true ↔ Fits n l) → fitsB n l = b by
    intro b hb
    unfold fitsB
    by_cases h : Fits n l
    · rw [decide_eq_true h, hb.2 h]
    · rw [decide_eq_false h]
      cases b
      · rfl
      · exact absurd (hb.1 rfl) h)
  have HB := Lib.hid hB
  have HBx := Lib.hid hbx
  have T1 := Lib.hid (t.on hB)
  have hp := pages_le t.hn
  have hW : Hid (w.alloc (.cells (lcs l).toArray 86) = w.alloc (.cells (lcs l).toArray 86)) := Lib.hid rfl
  have HIl : Hid (In l) := Lib.hid hi
  clear hm hmr hB hbx t hi
  obtain ⟨c1, c2⟩ := T1.out.rows
  generalize hx : w.alloc (.cells (lcs l).toArray 86) = W at *
  have HW := Lib.hid hx
  clear hW
  unfold Fits at HF
  obtain ⟨gen, index, places⟩ := l
  simp only at *
  generalize hR : is places = R at *
  have HR := Lib.hid hR
  clear hR
  rcases (show index < 0 ∨ (0 ≤ index ∧ ¬ index < (pages n : Int)) ∨ (0 ≤ index ∧ index < (pages n : Int)) by omega) with i0 | ⟨i0, i1⟩ | ⟨i0, i1⟩
  · have hd : decide (index < 0) = true := decide_eq_true i0
    have HQ := Lib.hid (HF.out false (by constructor <;> intro h; cases h; omega))
    go_enter Tryz.func102, Tryz.ntmps102
    go_wp2
    go_quiet (fail)
    go_wp2
    go_ret
    exact ⟨ret_bool HQ.out, below_draws HB.out _⟩
  · have hd : decide (index < 0) = false := decide_eq_false (by omega)
    have HQ := Lib.hid (HF.out false (by constructor <;> intro h; cases h; omega))
    go_enter Tryz.func102, Tryz.ntmps102
    go_wp2
    go_quiet (fail)
    go_wp2
    go_ret
    exact ⟨ret_bool HQ.out, below_draws HB.out _⟩
  · have hd : decide (index < 0) = false := decide_eq_false (by omega)
    have HWq : Hid (∀ q, (loadCellsFrom ⟨w.heap.size, 2, none⟩ 0 m #[]).run Tryz.prog (W.drewN q) = .ok R.toArray (W.drewN q) ∧ TbIs (W.drewN q) d g h n ys ds ∧ (W.drewN q).cell? ⟨w.heap.size, 1, none⟩ = some (.int .i64 index) ∧ Below w.heap.size w (W.drewN q)) := Lib.hid fun q =>
      ⟨by rw [← HR.out]; exact big_load0 Tryz.prog w.heap.size 2 (is places) m (by have := HIl.out; unfold In at this; rw [is_length, this, HM.out.1]) _ HBx.out.lfPlaces, ⟨T1.out.tb, T1.out.lv, T1.out.dt, T1.out.hn, T1.out.hy, T1.out.hd⟩, x1, below_draws HB.out q⟩
    obtain ⟨qi, rfl⟩ : ∃ qi : Nat, index = qi := ⟨index.toNat, by omega⟩
    rw [Int.toNat_natCast] at HF
    have hpq : ¬ pages n ≤ qi := by omega
    have hpd : decide (pages n ≤ qi) = false := decide_eq_false hpq
    clear hld
    go_enter Tryz.func102, Tryz.ntmps102
    go_wp2
    go_quiet (fail)
    obtain ⟨hld, T2, x1, HB2⟩ := HWq.out nq
    generalize W.drewN nq = W2 at *
    have HT2 := Lib.hid T2
    have HBB := Lib.hid HB2
    clear HWq T2 HB2 c1 c2 x0 HBx T1 HB
    go_wp2
    go_loopw [22] (fun i wr => ∃ k : Nat, k ≤ 10 ∧ i = .int .i64 k ∧ (∀ j, j < k → okP n qi j (places.getD j 0)) ∧ W2 = wr) (fun i _ => 10 - (intOf i).toNat)
    case atStart => exact ⟨0, by omega, rfl, fun j hj => by omega, rfl⟩
    case round =>
      obtain ⟨k, hk, rfl, hall, rfl⟩ := hrel
      by_cases hlt : k < 10
      · have hix := fun w' => HI.out w' k hlt
        have HA := Lib.hid hall
        have HS : Hid (okP n qi k (places.getD k 0) → ∀ j, j < k + 1 → okP n qi j (places.getD j 0)) := Lib.hid fun h j hj => by
          by_cases e : j = k
          · subst e; exact h
          · exact hall j (by omega)
        have HNo : Hid (¬ okP n qi k (places.getD k 0) → fitsB n ⟨gen, (qi : Int), places⟩ = false) := Lib.hid fun h => HF.out false (by
          constructor
          · intro e; cases e
          · intro e; exact absurd (e.2.2 k hlt) h)
        have HN := Lib.hid (has_any W2 ((qi : Int) * 10 + (k : Int)) HT2.out)
        clear hall
        generalize places.getD k 0 = p at *
        rcases (show p < 0 ∨ p = 0 ∨ 0 < p by omega) with p0 | p0 | p0
        · have HQ := Lib.hid (HNo.out (by unfold okP; omega))
          go_wp2
          go_ret
          exact ⟨ret_bool HQ.out, HBB.out⟩
        · subst p0
          have HQ := Lib.hid (HS.out (by unfold okP; omega))
          go_wp2
          go_roundw
          case rel => exact ⟨k + 1, by omega, by go_num, HQ.out, by first | rfl | trivial⟩
          case measure => simp [intOf]; omega
        · cases hb : hasB n ((qi : Int) * 10 + (k : Int))
          · rw [hb] at HN
            have HQ := Lib.hid (HNo.out (by
              intro h
              have := hasB_nat (h.2 p0)
              rw [show ((qi * 10 + k : Nat) : Int) = (qi : Int) * 10 + k by omega, hb] at this
              cases this))
            clear hb
            go_wp2_with fail
            refine HN.out.mono ?_
            rintro e w' ⟨rfl, rfl⟩
            go_wp2
            go_ret
            exact ⟨ret_bool HQ.out, HBB.out⟩
          · rw [hb] at HN
            have HQ := Lib.hid (HS.out (by
              obtain ⟨x, hx, hx2⟩ := hasB_iff.1 hb
              unfold okP
              omega))
            clear hb
            go_wp2_with fail
            refine HN.out.mono ?_
            rintro e w' ⟨rfl, rfl⟩
            go_wp2
            go_roundw
            case rel => exact ⟨k + 1, by omega, by go_num, HQ.out, by first | rfl | trivial⟩
            case measure => simp [intOf]; omega
      · obtain rfl : k = 10 := by omega
        have HQ := Lib.hid (HF.out true ⟨fun _ => ⟨i0, i1, hall⟩, fun _ => rfl⟩)
        clear hall
        go_wp2
        go_ret
        exact ⟨ret_bool HQ.out, HBB.out⟩
end Go.Proofs.YtgnpohkippegpaaGreat

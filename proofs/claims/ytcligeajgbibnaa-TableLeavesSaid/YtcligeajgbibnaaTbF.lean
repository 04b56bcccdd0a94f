/-
  Package table: Leaves.
-/
import Derived.Test.YtcligeajgbibnaaTbE
namespace Go.Proofs.Ytcligeajgbibnaa
open Go.RowKit Leaf Tbl
set_option linter.unusedVariables false

section
variable {w : World} {ops : Array Oper} {rest : List Oper} {o : Oper} {a : Act} {Q : Exit → Act → World → Prop}
theorem wpList_lf_build3 (hgd : o.guard = none) (x0 x1 x2 : Operand) (ho : o.op = .build 50 #[(0, x0), (1, x1), (2, x2)]) (l : Lf) (hl : In l) (h0 : a.eval x0 = .int .i64 l.gen) (h1 : a.eval x1 = .int .i64 l.index) (h2 : a.eval x2 = .agg (is l.places).toArray)
    (h : wpList Try.prog ops Q rest (a.put o.dst (.agg (lcs l).toArray)) w) : wpList Try.prog ops Q (o :: rest) a w := by
  refine wpList_plain hgd fun K hK => ?_
  unfold Oper.wp
  simp [execOp, ho, h0, h1, h2, run_build_leaf3 w l hl, Result.andThen]
  exact hK _ _ h
theorem wpList_lf_lay (hgd : o.guard = none) (x y : Operand) (ho : o.op = .store 50 x y) (g off : Nat) (l : Lf) (cs : List Value) (hr : In l) (hl : off + 12 ≤ cs.length) (hx : a.eval x = .pointer (some ⟨g, off, none⟩)) (hy : a.eval y = .agg (lcs l).toArray) (hb : Box w g 50 cs)
    (h : ∀ w', Box w' g 50 (lay cs off (lcs l)) → w.grownBy w' (some g) → w'.heap.size = w.heap.size → wpList Try.prog ops Q rest (a.put o.dst undef) w') : wpList Try.prog ops Q (o :: rest) a w :=
  wpList_store_midbox w hgd _ x y ho g off _ cs (lcs l) (lf_size hr) (by rw [lcs_length hr]; exact hl) (lcs_one l) hx hy hb h
end
set_option maxRecDepth 100000 in
theorem tleaves_any {d g h n : Nat} {ys : List Int} {ds : List Bool} (w : World) (gen : Int) (t : TbIs w d g h n ys ds) :
    Calls Try.prog 22 #[tp d, .int .i64 gen] w fun e w' => ∃ b, e = .returned (rowAt b (pages n)) ∧ Box w' b 50 (lfls (lfsOf ys gen (pages n))) ∧ w.heap.size ≤ b ∧ Below w.heap.size w w' := by
  obtain ⟨c1, c2⟩ := t.rows
  obtain ⟨m, hm, hsz⟩ := big_size (P := Try.prog) (t := 59) (s := 10) (by kernel_rfl)
  obtain ⟨mr, hmr, hszr⟩ := big_size (P := Try.prog) (t := 50) (s := 12) (by kernel_rfl)
  have hm0 : ¬ m = 0 := by omega
  have hmr0 : ¬ mr = 0 := by omega
  have HM := Lib.hid (And.intro hm hmr)
  have HT := Lib.hid t
  have hp := pages_le t.hn
  have hmk := fun w' => make_lfs w' (pages n) (by omega)
  have HI := Lib.hid (lfsOf_in (gen := gen) t.hy)
  have HLn := Lib.hid (lfsOf_length ys gen (pages n))
  have HLg := Lib.hid fun (q : Nat) (hq : q < pages n) => lfsOf_get (ys := ys) (gen := gen) hq
  have HZ := Lib.hid (show lfls (List.replicate (pages n) lf0) = lfls (lfTo (lfsOf ys gen (pages n)) 0) by rw [lfTo_zero, lfsOf_length])
  clear hm hmr t
  generalize hP : pages n = P at *
  have HP := Lib.hid hP
  clear hP
  generalize hLs : lfsOf ys gen P = ls at *
  have HLs := Lib.hid hLs
  clear hLs
  generalize hC : lfls (List.replicate P lf0) = C0 at *
  have c1a : (w.alloc (.cells C0.toArray 50)).cell? ⟨d, 1, none⟩ = some (rowAt g P) := by
    have := (HT.out.on ((Below.refl w.heap.size w).alloc (Nat.le_refl _) (.cells C0.toArray 50 (0, 0)))).rows.1
    rwa [HP.out] at this
  go_enter Try.func22, Try.ntmps22
  go_wp2
  have HB := Lib.hid (Box.new w 50 C0)
  have HL := Lib.hid ((Below.refl w.heap.size w).alloc (Nat.le_refl _) (.cells C0.toArray 50 (0, 0)))
  generalize hW : w.alloc (.cells C0.toArray 50) = w1 at *
  clear hW hmk hC c1a
  generalize hb : w.heap.size = b at *
  have Hb := Lib.hid hb
  clear hb
  go_loopw [19] (fun i wr => ∃ k : Nat, k ≤ P ∧ i = .int .i64 k ∧ Box wr b 50 (lfls (lfTo ls k)) ∧ Below b w wr) (fun i _ => P - (intOf i).toNat)
  case atStart => exact ⟨0, by omega, rfl, by rw [← HZ.out]; exact HB.out, HL.out⟩
  case round =>
    clear HB HL HZ
    obtain ⟨k, hk, rfl, hbx, hbl⟩ := hrel
    by_cases hlt : k < P
    · have HT2 := Lib.hid (HT.out.on (by rw [Hb.out]; exact hbl))
      have hql : leafOf ys k = (lfOf ys gen k).places := rfl
      have HK : Hid (ls[k]? = some (lfOf ys gen k)) := Lib.hid (HLg.out k hlt)
      have HLi : Hid (In ⟨gen, (k : Int), leafOf ys k⟩) := Lib.hid (HI.out _ (List.mem_of_getElem? HK.out))
      have hRg : wr.rangeAt g (k * m) (is (leafOf ys k)) := HT2.out.lv.range _ _ fun j v hv => by rw [HM.out.1]; exact leafOf_at hv
      have HL10 : Hid ((leafOf ys k).length = 10) := Lib.hid HLi.out
      have hld := big_load0 Try.prog g (k * m) (is (leafOf ys k)) m (by rw [is_length, HL10.out, HM.out.1]) wr hRg
      have HX := Lib.hid hbx
      have HBl := Lib.hid hbl
      have HCl : Hid (k * mr + 12 ≤ (lfls (lfTo ls k)).length) := Lib.hid (by rw [lfls_length (lfTo_in HI.out k), lfTo_length (by rw [HLn.out]; exact hk), HLn.out, HM.out.2]; omega)
      have HLay : Hid (lay (lfls (lfTo ls k)) (k * mr) (lcs ⟨gen, (k : Int), leafOf ys k⟩) = lfls (lfTo ls (k + 1))) := Lib.hid (by rw [HM.out.2]; exact lfTo_lay HI.out HK.out)
      have hbs : b ≤ wr.heap.size := by rw [← Hb.out]; exact HBl.out.size
      have hki : (k : Int) < (P : Int) := by omega
      clear hbx hbl hRg hql
      generalize leafOf ys k = L at *
      generalize lfls (lfTo ls k) = C at *
      go_wp2_with (first
        | ((with_reducible refine wpList_tl_alloc (o := ⟨some 7, .alloc _, _, _, _, _⟩) rfl rfl ?_); intro w2 x2 hB2 hs2; have K2 := Lib.hid hB2; clear hB2 hs2)
        | ((with_reducible refine wpList_tl_store (o := ⟨none, .store 59 _ _, _, _, _, _⟩) rfl _ _ rfl wr.heap.size L z10 HL10.out rfl rfl rfl x2 ?_); go_loud (intro w3 x3 hg3 hs3; have l3 := big_load0 Try.prog wr.heap.size 0 (is L) m (by rw [is_length, HL10.out, HM.out.1]) _ x3.range0; have K3 := Lib.hid (below_stored K2.out hg3 K2.out.size (Nat.le_refl _)); have X3 := Lib.hid (HX.out.below K3.out HX.out.lt); have B3 := Lib.hid (And.intro (HBl.out.trans (K3.out.mono hbs)) (Nat.le_trans hbs K3.out.size)); clear x2 x3 hg3 hs3 K2 K3 HX HBl hbs; generalize wr.heap.size = bv at *))
        | ((with_reducible refine wpList_lf_build3 (o := ⟨some 29, .build _ _, _, _, _, _⟩) rfl _ _ _ rfl ⟨gen, (k : Int), L⟩ HLi.out rfl rfl rfl ?_))
        | ((with_reducible refine wpList_lf_lay (o := ⟨none, .store 50 _ _, _, _, _, _⟩) rfl _ _ rfl b (k * mr) ⟨gen, (k : Int), L⟩ C HLi.out HCl.out rfl rfl X3.out ?_); go_loud (intro w4 x4 hg4 hs4; rw [HLay.out] at x4; have X4 := Lib.hid (And.intro x4 (below_stored B3.out.1 hg4 B3.out.2 (Nat.le_refl _))); clear x4 hg4 hs4 B3 X3))
        | fail)
      go_roundw
      case rel => exact ⟨k + 1, by omega, by go_num, X4.out⟩
      case measure => simp [intOf]; omega
    · obtain rfl : P = k := by omega
      have HX := Lib.hid hbx
      have HBl := Lib.hid hbl
      clear hbx hbl
      go_wp2
      go_ret
      refine ⟨b, rfl, ?_, by rw [Hb.out]; exact Nat.le_refl _, by rw [Hb.out]; exact HBl.out⟩
      have := HX.out
      have e : ls.length = P := HLn.out
      subst e
      rwa [lfTo_all] at this
end Go.Proofs.Ytcligeajgbibnaa

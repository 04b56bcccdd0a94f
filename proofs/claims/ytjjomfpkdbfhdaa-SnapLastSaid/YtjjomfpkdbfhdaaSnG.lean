/-
  Package snap: Forget, and maps.DeleteFunc as it calls it.
-/
import Derived.Test.YtjjomfpkdbfhdaaSnE
import Derived.Deep.LoopGhost
import Derived.Laws.IdiomRangeMap
import Derived.Maps.Ext
namespace Go.Proofs.Ytjjomfpkdbfhdaa
open Go.RowKit Word Snap
set_option linter.unusedVariables false

abbrev ptr (bn : Nat) : Value := .pointer (some ⟨bn, 0, none⟩)
set_option maxRecDepth 100000 in
theorem fpred_any (bn : Nat) (x : Int) (a : Int × Int) (y : Ol × Int) (w : World) (hb : w.cell? ⟨bn, 0, none⟩ = some (.int .i64 x)) :
    Calls Try.prog 24 #[chv a, wv y, ptr bn] w fun e w' => e = .returned (.bool (decide (a.2 ≤ x))) ∧ Below w.heap.size w w' := by
  have hlt : bn < w.heap.size := World.block_lt_of_cell? w ⟨bn, 0, none⟩ hb
  have HW := Lib.hid (And.intro hb hlt)
  clear hb hlt
  go_enter Try.func24, Try.ntmps24
  go_wp2_with (first
    | ((with_reducible refine wpList_box_box _ (o := ⟨some 3, .box _ _, _, _, _, _⟩) rfl _ _ rfl [.int .i64 a.1, .int .i64 a.2] rfl ?_); intro w1 x1 hB1 hs1)
    | ((with_reducible refine wpList_box_box _ (o := ⟨some 4, .box _ _, _, _, _, _⟩) rfl _ _ rfl (wcs y) rfl ?_); intro w2 x2 hB2 hs2; have hB := bthen hB1 hB2; have c0 : w2.cell? ⟨bn, 0, none⟩ = some (.int .i64 x) := (hB.cell (p := ⟨bn, 0, none⟩) HW.out.2).trans HW.out.1; have k1 : w2.cell? ⟨w.heap.size, 1, none⟩ = some (.int .i64 a.2) := (x1.on hB2).cell 1; have H2 := Lib.hid hB; clear x1 hB1 hs1 x2 hB2 hs2 hB)
    | fail)
  go_ret
  exact ⟨rfl, H2.out⟩

theorem below_grow {w w' : World} (hb : Below w.heap.size w w') : w.grownBy w' none := ⟨hb.os, hb.tape, hb.output, hb.size, fun k hk _ => hb.block k hk⟩
open Classical in
noncomputable def pdL (x : Int) (kl : Lit) (_ : DataW Value) : Bool := decide (∃ a : Int × Int, (W64 a.1 ∧ W64 a.2) ∧ chl a = kl ∧ a.2 ≤ x)
open Classical in
theorem pdL_at {x : Int} {a : Int × Int} (h : W64 a.1 ∧ W64 a.2) (d : DataW Value) : pdL x (chl a) d = decide (a.2 ≤ x) := by
  unfold pdL
  by_cases hx : a.2 ≤ x
  · rw [decide_eq_true hx]
    exact decide_eq_true ⟨a, h, rfl, hx⟩
  · rw [decide_eq_false hx]
    refine decide_eq_false ?_
    rintro ⟨a', h1, h2, h3⟩
    have := ch_inj h1 h h2
    subst this
    exact hx h3
theorem MapL.entry {K : List Kp} {es0 : List (Lit × DataW Value)} {pd : Lit → DataW Value → Bool} {left : Lit → Bool} (hp : es0.Perm (K.map enL)) (hap : es0.Pairwise fun p q => p.1 ≠ q.1) (hin : ∀ x ∈ K, KIn x) {v c1 : Value} {kl : Lit} (hkey : keyOf Try.prog 66 v = some kl)
    (hat : ∀ zd, (Maps.Fk pd es0 left).atKey kl zd = .held c1) : ∃ x ∈ K, v = chv x.1 ∧ c1 = wv x.2 ∧ kl = chl x.1 := by
  have hhas : Maps.has (Maps.Fk pd es0 left) kl = true := Maps.has_true_of_atKey hat
  unfold Maps.Fk at hhas hat
  rw [Maps.has_eq] at hhas
  obtain ⟨p, hpm, hs⟩ := List.any_eq_true.1 hhas
  have e1 := WideAt.sameKey_eq hs
  have hp0 := (List.mem_filter.1 hpm).1
  obtain ⟨x, hx, rfl⟩ := List.mem_map.1 (hp.mem_iff.1 hp0)
  have h2 := WideAt.atKey_mem (k := kl) (d := .held (wv x.2)) (DataW.nil : DataW Value) (ch_law.key hkey) (hap.filter _) (by rw [← e1]; exact hpm)
  rw [hat .nil] at h2
  injection h2 with h2
  have e2 : kl = chl x.1 := e1.symm
  refine ⟨x, hx, ?_, h2, e2⟩
  rw [e2] at hkey
  exact ch_law.inj hkey (keyOf_ch (hin x hx).1.1 (hin x hx).1.2)

theorem zero_change (w : World) : (zeroValue 66).run Try.prog w = .ok (.agg [Value.int .i64 0, .int .i64 0].toArray) w :=
  (zero_of_info (P := Try.prog) (t := 66) (v := .agg [Value.int .i64 0, .int .i64 0].toArray) (n := 2) (by kernel_rfl)).1 w
set_option maxRecDepth 100000 in
set_option maxHeartbeats 4000000 in
theorem mdel_any (bn c n : Nat) (x : Int) (K : List Kp) (w : World) (hK : MapL w c n K) (hb : w.cell? ⟨bn, 0, none⟩ = some (.int .i64 x)) :
    Calls Try.prog 23 #[.map (some c), .func (.func 24) #[] #[ptr bn]] w fun e w' => e = .returned (.tuple #[]) ∧ MapL w' c n (K.filter fun y => decide (x < y.1.2)) ∧ w.grownBy w' (some c) := by
  obtain ⟨m5, hm5, hsw⟩ := big_size (P := Try.prog) (t := 63) (s := 35) (by kernel_rfl)
  have hm50 : ¬ m5 = 0 := by omega
  have HM := Lib.hid hm5
  have hne : bn ≠ c := by
    rintro rfl
    obtain ⟨es, ck, h2⟩ := hK.is_map
    rw [map_cell h2] at hb
    cases hb
  have HD : Hid (∀ W a y, w.grownBy W (some c) → Calls Try.prog 24 #[chv a, wv y, ptr bn] W fun e w' => e = .returned (.bool (decide (a.2 ≤ x))) ∧ Below W.heap.size W w') := Lib.hid fun W a y hg =>
    fpred_any bn x a y W ((World.cell?_of_block (hg.block bn (World.block_lt_of_cell? w ⟨bn, 0, none⟩ hb) (fun e => hne (by injection e)))).trans hb)
  obtain ⟨es0, hown, hp, hpw, hin⟩ := hK
  obtain ⟨es1, he, hap, hkeys⟩ := hown.entries ch_law
  obtain rfl : es0 = es1 := by injection he
  have HF := Lib.hid (And.intro hp (And.intro hap (And.intro hpw hin)))
  clear hp hpw hin he hm5 hne hb
  go_enter Try.func23, Try.ntmps23
  go_wp2_with (first
    | (at_range; refine wpList_range_own _ rfl _ 59 rfl 66 63 ch_law Try.underlying59 asIs c n _ rfl hown ?_; intro w0 hrg0 hg0 hs0)
    | fail)
  go_frame
  have H0 := Lib.hid (And.intro hrg0 hg0)
  clear hrg0 hg0 hs0 hown
  go_loopw [8] (fun _ wr => ∃ (left : Lit → Bool) (cnt : Nat), wr.ranges Try.prog 66 asIs c w.heap.size n (Maps.Fk (pdL x) es0 left) left cnt ∧ w.grownBy wr (some c))
    (fun _ wr => wr.rangeLeft c w.heap.size)
  case atStart => exact ⟨_, _, by rw [Maps.Fk_start hkeys]; exact H0.out.1, H0.out.2.but _⟩
  case round =>
    obtain ⟨left, cnt, hrg, hgw⟩ := hrel
    go_wp2_with (first
      | (at_next; refine wpList_next_ranges _ rfl _ rfl 66 ch_law asIs id id (fun key _ _ => ⟨key, rfl⟩) (fun v _ _ => ⟨v, rfl⟩) c w.heap.size n _ _ _ rfl hrg ?_ ?_)
      | fail)
    · intro _ hl0
      go_wp2
      go_end0
      refine ⟨rfl, ?_, hgw⟩
      have h1 := hrg.owns
      rw [Maps.Fk_end hl0] at h1
      refine MapL.filtered HF.out.1 HF.out.2.2.1 HF.out.2.2.2 (fun y hy => ?_) h1
      show (!pdL x (chl y.1) _) = _
      rw [pdL_at (HF.out.2.2.2 y hy).1]
      by_cases h : y.1.2 ≤ x
      · rw [decide_eq_true h, decide_eq_false (by omega)]; rfl
      · rw [decide_eq_false h, decide_eq_true (by omega)]; rfl
    · intro v c1 kl yd yp w1 cnt1 hkey hlx hv hat hrg1 hlt hg1 hs1 hen
      have hyd : yd = .held c1 := by
        unfold asIs at hv
        exact (congrArg Prod.fst (Option.some.inj hv)).symm
      subst hyd
      obtain ⟨y, hy, rfl, rfl, rfl⟩ := MapL.entry HF.out.1 HF.out.2.1 HF.out.2.2.2 hkey hat
      have hi := HF.out.2.2.2 y hy
      have hpd := pdL_at (x := x) hi.1 (DataW.held (wv y.2))
      obtain ⟨⟨a1, a2⟩, z⟩ := y
      have HK : Hid ((W64 a1 ∧ W64 a2) ∧ OIn z.1 ∧ OIn z.1) := Lib.hid ⟨hi.1, hi.2, hi.2⟩
      have HG := Lib.hid (hgw.andThen hg1 (fun j hj => by cases hj; exact Or.inl (Nat.le_refl _)))
      have HR1 := Lib.hid (And.intro hrg1 (And.intro hkey (And.intro hlx (And.intro hat (And.intro hpd hlt)))))
      have HR0 := Lib.hid hrg
      have HOne : Hid (∀ u ∈ [Value.int .i64 a1, Value.int .i64 a2], u.oneCell' = true) := Lib.hid (by
        intro u hu
        simp at hu
        rcases hu with rfl | rfl <;> rfl)
      clear hrg1 hkey hlx hat hpd hlt hrg hgw hg1 hs1 hv hi hy
      by_cases hx : a2 ≤ x
      · have hdec : decide (a2 ≤ x) = true := decide_eq_true hx
        go_wp2_with (first
        | ((with_reducible refine wpList_alloc_box _ (o := ⟨some 4, .alloc _, _, _, _, _⟩) rfl _ rfl [.int .i64 0, .int .i64 0] zero_change ?_); intro w2 x2 hB2 hs2)
        | ((with_reducible refine wpList_was_alloc (o := ⟨some 5, .alloc _, _, _, _, _⟩) rfl rfl ?_); go_loud (intro w3 x3 hB3 hs3; have x2 := x2.on hB3; have hne : w1.heap.size + 1 ≠ w1.heap.size := (by omega); have hs2' := hs2; rw [hs2'] at x3; clear hs2'; have hl3 : w1.heap.size ≤ w3.heap.size := (by omega); have hB3 := bthen hB2 hB3; clear hB2 hs3; rw [hs2]; clear hs2))
        | ((with_reducible refine wpList_store_var _ (o := ⟨none, .store _ (.tmp 4) _, _, _, _, _⟩) rfl 66 _ _ rfl w1.heap.size [.int .i64 a1, .int .i64 a2] [.int .i64 0, .int .i64 0] (by kernel_rfl) rfl HOne.out rfl rfl x2 ?_); go_loud (intro w4 x4 hg4; have x3 := x3.grown hg4 hne; have K4 := below_stored hB3 hg4 hl3 (Nat.le_refl _)))
        | ((with_reducible refine wpList_was_store (o := ⟨none, .store _ (.tmp 5) _, _, _, _, _⟩) rfl _ _ rfl (w1.heap.size + 1) z Snap.w0 HK.out.2.2 ol0_in rfl rfl x3 ?_); go_loud (intro w5 x5 hg5 _; have x4 := x4.grown hg5 (Ne.symm hne); have K5 := below_stored K4 hg5 K4.size (by omega); have e0 : w5.cell? ⟨w1.heap.size, 0, none⟩ = some (.int .i64 a1) := x4.cell 0; have e1 : w5.cell? ⟨w1.heap.size, 1, none⟩ = some (.int .i64 a2) := x4.cell 1; have hldw := x5.wasAll HK.out.2.2 HM.out; have HC := HD.out w5 (a1, a2) z (HG.out.andThen (below_grow K5) (fun j hj => by cases hj)); rw [hdec] at HC; have H5 := Lib.hid (And.intro K5 x4); clear x2 x3 x4 x5 hB3 hne hg4 K4 hg5 K5 hl3; generalize w1.heap.size + 1 = b5 at hldw ⊢))
        | fail)
        refine HC.mono ?_
        rintro e w6 ⟨rfl, hb6⟩
        have e0 : w6.cell? ⟨w1.heap.size, 0, none⟩ = some (.int .i64 a1) := (H5.out.2.on hb6).cell 0
        have e1 : w6.cell? ⟨w1.heap.size, 1, none⟩ = some (.int .i64 a2) := (H5.out.2.on hb6).cell 1
        have H6 := Lib.hid (below_grow (bthen H5.out.1 hb6))
        have hrg6 := Lib.hid (HR1.out.1.kept H6.out (by simp) (by simp))
        clear hb6 hldw HC
        go_wp2_with (first
          | (at_delete; refine wpList_delete_ranges _ rfl _ _ 59 66 rfl 63 ch_law Try.underlying59 asIs c w.heap.size n _ _ _ rfl hrg6.out _ _ rfl HR1.out.2.1 ?_; intro w7 cnt7 hrg7 hle hturn; go_frame)
          | fail)
        have hrg7 := hrg7
        rw [Maps.strike_twice] at hrg7
        go_roundw
        case rel => exact ⟨_, cnt7, by rw [← Maps.Fk_struck HF.out.2.1 (ch_law.key HR1.out.2.1) HR1.out.2.2.1 (HR1.out.2.2.2.2.1.trans hdec) HR1.out.2.2.2.1]; exact hrg7, (HG.out.andThen H6.out (fun j hj => by cases hj)).andThen hturn.grown (fun j hj => by cases hj; exact Or.inr rfl)⟩
        case measure => rw [hrg7.left_eq, HR0.out.left_eq]; have := HR1.out.2.2.2.2.2; omega
      · have hdec : decide (a2 ≤ x) = false := decide_eq_false hx
        go_wp2_with (first
        | ((with_reducible refine wpList_alloc_box _ (o := ⟨some 4, .alloc _, _, _, _, _⟩) rfl _ rfl [.int .i64 0, .int .i64 0] zero_change ?_); intro w2 x2 hB2 hs2)
        | ((with_reducible refine wpList_was_alloc (o := ⟨some 5, .alloc _, _, _, _, _⟩) rfl rfl ?_); go_loud (intro w3 x3 hB3 hs3; have x2 := x2.on hB3; have hne : w1.heap.size + 1 ≠ w1.heap.size := (by omega); have hs2' := hs2; rw [hs2'] at x3; clear hs2'; have hl3 : w1.heap.size ≤ w3.heap.size := (by omega); have hB3 := bthen hB2 hB3; clear hB2 hs3; rw [hs2]; clear hs2))
        | ((with_reducible refine wpList_store_var _ (o := ⟨none, .store _ (.tmp 4) _, _, _, _, _⟩) rfl 66 _ _ rfl w1.heap.size [.int .i64 a1, .int .i64 a2] [.int .i64 0, .int .i64 0] (by kernel_rfl) rfl HOne.out rfl rfl x2 ?_); go_loud (intro w4 x4 hg4; have x3 := x3.grown hg4 hne; have K4 := below_stored hB3 hg4 hl3 (Nat.le_refl _)))
        | ((with_reducible refine wpList_was_store (o := ⟨none, .store _ (.tmp 5) _, _, _, _, _⟩) rfl _ _ rfl (w1.heap.size + 1) z Snap.w0 HK.out.2.2 ol0_in rfl rfl x3 ?_); go_loud (intro w5 x5 hg5 _; have x4 := x4.grown hg5 (Ne.symm hne); have K5 := below_stored K4 hg5 K4.size (by omega); have e0 : w5.cell? ⟨w1.heap.size, 0, none⟩ = some (.int .i64 a1) := x4.cell 0; have e1 : w5.cell? ⟨w1.heap.size, 1, none⟩ = some (.int .i64 a2) := x4.cell 1; have hldw := x5.wasAll HK.out.2.2 HM.out; have HC := HD.out w5 (a1, a2) z (HG.out.andThen (below_grow K5) (fun j hj => by cases hj)); rw [hdec] at HC; have H5 := Lib.hid (And.intro K5 x4); clear x2 x3 x4 x5 hB3 hne hg4 K4 hg5 K5 hl3; generalize w1.heap.size + 1 = b5 at hldw ⊢))
        | fail)
        refine HC.mono ?_
        rintro e w6 ⟨rfl, hb6⟩
        have e0 : w6.cell? ⟨w1.heap.size, 0, none⟩ = some (.int .i64 a1) := (H5.out.2.on hb6).cell 0
        have e1 : w6.cell? ⟨w1.heap.size, 1, none⟩ = some (.int .i64 a2) := (H5.out.2.on hb6).cell 1
        have H6 := Lib.hid (below_grow (bthen H5.out.1 hb6))
        have hrg6 := Lib.hid (HR1.out.1.kept H6.out (by simp) (by simp))
        clear hb6 hldw HC
        go_wp2
        go_roundw
        case rel => exact ⟨_, cnt1, by rw [← Maps.Fk_stays HF.out.2.1 (ch_law.key HR1.out.2.1) HR1.out.2.2.1 (HR1.out.2.2.2.2.1.trans hdec) HR1.out.2.2.2.1]; exact hrg6.out, HG.out.andThen H6.out (fun j hj => by cases hj)⟩
        case measure => rw [hrg6.out.left_eq, HR0.out.left_eq]; have := HR1.out.2.2.2.2.2; omega

section
variable {w w1 w2 w' : World} {d b c m : Nat} {all : List (List Ol)} {g g2 : Nat}
/-- what is forgotten -/
theorem SnIs.forgot (t : SnIs w d b c m all g) (h1 : g ≤ g2) (h2 : g2 ≤ all.length) (x : Int) (hx : x = g2) (hm : MapL w2 c m ((kept all g).filter fun y => decide (x < y.1.2))) (hg : (w.setCell ⟨d, 1, none⟩ (.int .i64 x)).grownBy w2 (some c)) : SnIs w2 d b c m all g2 ∧ Fr (Tri d b c) w w2 := by
  subst hx
  obtain ⟨n1, n2, n3⟩ := t.raw.apart
  obtain ⟨f, hf1, hf2⟩ := t.raw.ls
  have f1 : Fr (fun k => k = d) w (w.setCell ⟨d, 1, none⟩ (.int .i64 (g2 : Int))) := Fr.of_setCell w ⟨d, 1, none⟩ _ rfl
  have f2 : Fr (fun k => k = c) (w.setCell ⟨d, 1, none⟩ (.int .i64 (g2 : Int))) w2 := Fr.of_grown hg fun k e => by injection e with e; exact e.symm
  have hs := f1.size
  refine ⟨⟨⟨(t.raw.bx.set 1 _).same (f2.same (Nat.lt_of_lt_of_le t.raw.bx.lt hs) n2), ⟨f, hf1.same ((f2.same (Nat.lt_of_lt_of_le hf1.lt hs) n3).trans (f1.same hf1.lt (Ne.symm n1))), hf2⟩, ?_, n3⟩, h2⟩, (f1.mono fun k _ h => .inl h).trans (f2.mono fun k _ h => .inr (.inr h))⟩
  unfold kept
  rw [keptN_forget h1]
  exact hm
end
set_option maxRecDepth 100000 in
set_option maxHeartbeats 4000000 in
theorem forget_any (d b c m : Nat) (all : List (List Ol)) (g : Nat) (n : Int) (w : World) (t : SnIs w d b c m all g) :
    Calls Try.prog 21 #[snp d, .int .i64 n] w fun e w' => e = .returned (.tuple #[]) ∧ SnIs w' d b c m all (max g (min n all.length).toNat) ∧ Fr (Tri d b c) w w' := by
  have hb0 : Below w.heap.size w (w.alloc (.cells [Value.int .i64 n].toArray 3)) := (Below.refl _ _).alloc (Nat.le_refl _) _
  have hbx := Box.new w 3 [Value.int .i64 n]
  have HT := Lib.hid t
  clear t
  go_enter Try.func21, Try.ntmps21
  go_wp2_with fail
  generalize World.alloc _ _ = w1 at hb0 hbx ⊢
  have T1 := HT.out.on hb0
  obtain ⟨c0, c1, c2, c3⟩ := T1.raw.mem
  have k0 : w1.cell? ⟨w.heap.size, 0, none⟩ = some (.int .i64 n) := hbx.cell 0
  have kf : w1.frozen? ⟨w.heap.size, 0, none⟩ = false := hbx.frozen 0
  have H1 := Lib.hid (And.intro T1 (And.intro hb0 hbx))
  clear hb0 hbx T1
  have HK : Hid (∀ x : Int, SnIs ((w1.setCell ⟨w.heap.size, 0, none⟩ (.int .i64 x)).drew) d b c m all g ∧ Below w.heap.size w ((w1.setCell ⟨w.heap.size, 0, none⟩ (.int .i64 x)).drew) ∧ Box ((w1.setCell ⟨w.heap.size, 0, none⟩ (.int .i64 x)).drew) w.heap.size 3 [Value.int .i64 x]) := Lib.hid fun x => by
    have h1 : Below w.heap.size w (w1.setCell ⟨w.heap.size, 0, none⟩ (.int .i64 x)) := H1.out.2.1.setCell (Nat.le_refl _) _
    exact ⟨HT.out.on h1.drew, h1.drew, H1.out.2.2.set 0 _⟩
  by_cases hx : (all.length : Int) < n
  · go_region
    have H2 : Hid (SnIs ((w1.setCell ⟨w.heap.size, 0, none⟩ (.int .i64 (all.length : Int))).drew) d b c m all g ∧ Below w.heap.size w ((w1.setCell ⟨w.heap.size, 0, none⟩ (.int .i64 (all.length : Int))).drew) ∧ Box ((w1.setCell ⟨w.heap.size, 0, none⟩ (.int .i64 (all.length : Int))).drew) w.heap.size 3 [Value.int .i64 (all.length : Int)]) :=
      Lib.hid (HK.out _)
    generalize (w1.setCell _ _).drew = w2 at H2 ⊢
    clear c0 c1 c2 c3 k0 kf
    obtain ⟨c0, c1, c2, c3⟩ := H2.out.1.raw.mem
    have k0 : w2.cell? ⟨w.heap.size, 0, none⟩ = some (.int .i64 (all.length : Int)) := H2.out.2.2.cell 0
    by_cases hg : (all.length : Int) ≤ (g : Int)
    · have HE := Lib.hid (show max g (min n (all.length : Int)).toNat = g by omega)
      clear hx
      go_wp2_with fail
      go_quiet (fail)
      have H3 : Hid (SnIs (w2.drewN nq) d b c m all g ∧ Below w.heap.size w (w2.drewN nq)) := Lib.hid ⟨⟨H2.out.1.raw.drewN nq, H2.out.1.le⟩, below_draws H2.out.2.1 nq⟩
      generalize w2.drewN nq = w3 at H3 ⊢
      go_wp2
      refine bodyPost_ret (results_none rfl _ _ _) rfl ?_
      exact ⟨rfl, by rw [HE.out]; exact H3.out.1, Fr.of_below H3.out.2⟩
    · have HE := Lib.hid (show ∃ g2 : Nat, max g (min n (all.length : Int)).toNat = g2 ∧ g ≤ g2 ∧ g2 ≤ all.length ∧ (all.length : Int) = g2 from ⟨((all.length : Int)).toNat, by omega, by omega, by omega, by omega⟩)
      have hgp : (all.length ≤ g) = False := eq_false (by omega)
      have hgb : decide (all.length ≤ g) = false := decide_eq_false (by omega)
      clear hg
      clear hx
      go_wp2_with fail
      go_quiet (fail)
      have H3 : Hid (SnIs (w2.drewN nq) d b c m all g ∧ Below w.heap.size w (w2.drewN nq) ∧ Box (w2.drewN nq) w.heap.size 3 [Value.int .i64 (all.length : Int)]) := Lib.hid ⟨⟨H2.out.1.raw.drewN nq, H2.out.1.le⟩, below_draws H2.out.2.1 nq, H2.out.2.2⟩
      clear c0 c1 c2 c3 k0
      generalize w2.drewN nq = w3 at H3 ⊢
      obtain ⟨c0, c1, c2, c3⟩ := H3.out.1.raw.mem
      have k0 : w3.cell? ⟨w.heap.size, 0, none⟩ = some (.int .i64 (all.length : Int)) := H3.out.2.2.cell 0
      have fd : w3.frozen? ⟨d, 1, none⟩ = false := H3.out.1.raw.bx.frozen 1
      obtain ⟨n1, n2, n3⟩ := H3.out.1.raw.apart
      have nbx : d ≠ w.heap.size := Box.ne H3.out.1.raw.bx H3.out.2.2 (by decide)
      have HN := Lib.hid (And.intro n1 (And.intro n2 (And.intro n3 nbx)))
      clear n1 n2 n3 nbx
      go_wp2_with fail
      refine (mdel_any w.heap.size c m (all.length : Int) (kept all g) _ (H3.out.1.raw.kp.same (Below.heap_setCell _ _ _ _ (Ne.symm HN.out.2.1))) ((World.cell?_of_block (Below.heap_setCell _ ⟨d, 1, none⟩ _ w.heap.size (Ne.symm HN.out.2.2.2))).trans (H3.out.2.2.cell 0))).mono ?_
      rintro e w4 ⟨rfl, hm4, hg4⟩
      obtain ⟨g2, e1, e2, e3, e4⟩ := HE.out
      have H4 := Lib.hid (H3.out.1.forgot e2 e3 _ e4 hm4 hg4)
      have HE2 := Lib.hid e1
      clear c0 c1 c2 c3 k0 fd hm4 hg4 e1 e2 e3 e4 HE
      go_wp2
      go_end0
      exact ⟨rfl, by rw [HE2.out]; exact H4.out.1, (Fr.of_below H3.out.2.1).trans H4.out.2⟩
  · go_region
    have H2 : Hid (SnIs ((w1.setCell ⟨w.heap.size, 0, none⟩ (.int .i64 n)).drew) d b c m all g ∧ Below w.heap.size w ((w1.setCell ⟨w.heap.size, 0, none⟩ (.int .i64 n)).drew) ∧ Box ((w1.setCell ⟨w.heap.size, 0, none⟩ (.int .i64 n)).drew) w.heap.size 3 [Value.int .i64 n]) :=
      Lib.hid (HK.out _)
    generalize (w1.setCell _ _).drew = w2 at H2 ⊢
    clear c0 c1 c2 c3 k0 kf
    obtain ⟨c0, c1, c2, c3⟩ := H2.out.1.raw.mem
    have k0 : w2.cell? ⟨w.heap.size, 0, none⟩ = some (.int .i64 n) := H2.out.2.2.cell 0
    by_cases hg : n ≤ (g : Int)
    · have HE := Lib.hid (show max g (min n (all.length : Int)).toNat = g by omega)
      clear hx
      go_wp2_with fail
      go_quiet (fail)
      have H3 : Hid (SnIs (w2.drewN nq) d b c m all g ∧ Below w.heap.size w (w2.drewN nq)) := Lib.hid ⟨⟨H2.out.1.raw.drewN nq, H2.out.1.le⟩, below_draws H2.out.2.1 nq⟩
      generalize w2.drewN nq = w3 at H3 ⊢
      go_wp2
      refine bodyPost_ret (results_none rfl _ _ _) rfl ?_
      exact ⟨rfl, by rw [HE.out]; exact H3.out.1, Fr.of_below H3.out.2⟩
    · have HE := Lib.hid (show ∃ g2 : Nat, max g (min n (all.length : Int)).toNat = g2 ∧ g ≤ g2 ∧ g2 ≤ all.length ∧ n = g2 from ⟨(n).toNat, by omega, by omega, by omega, by omega⟩)
      have hgp : (n ≤ (g : Int)) = False := eq_false (by omega)
      have hgb : decide (n ≤ (g : Int)) = false := decide_eq_false (by omega)
      clear hg
      clear hx
      go_wp2_with fail
      go_quiet (fail)
      have H3 : Hid (SnIs (w2.drewN nq) d b c m all g ∧ Below w.heap.size w (w2.drewN nq) ∧ Box (w2.drewN nq) w.heap.size 3 [Value.int .i64 n]) := Lib.hid ⟨⟨H2.out.1.raw.drewN nq, H2.out.1.le⟩, below_draws H2.out.2.1 nq, H2.out.2.2⟩
      clear c0 c1 c2 c3 k0
      generalize w2.drewN nq = w3 at H3 ⊢
      obtain ⟨c0, c1, c2, c3⟩ := H3.out.1.raw.mem
      have k0 : w3.cell? ⟨w.heap.size, 0, none⟩ = some (.int .i64 n) := H3.out.2.2.cell 0
      have fd : w3.frozen? ⟨d, 1, none⟩ = false := H3.out.1.raw.bx.frozen 1
      obtain ⟨n1, n2, n3⟩ := H3.out.1.raw.apart
      have nbx : d ≠ w.heap.size := Box.ne H3.out.1.raw.bx H3.out.2.2 (by decide)
      have HN := Lib.hid (And.intro n1 (And.intro n2 (And.intro n3 nbx)))
      clear n1 n2 n3 nbx
      go_wp2_with fail
      refine (mdel_any w.heap.size c m n (kept all g) _ (H3.out.1.raw.kp.same (Below.heap_setCell _ _ _ _ (Ne.symm HN.out.2.1))) ((World.cell?_of_block (Below.heap_setCell _ ⟨d, 1, none⟩ _ w.heap.size (Ne.symm HN.out.2.2.2))).trans (H3.out.2.2.cell 0))).mono ?_
      rintro e w4 ⟨rfl, hm4, hg4⟩
      obtain ⟨g2, e1, e2, e3, e4⟩ := HE.out
      have H4 := Lib.hid (H3.out.1.forgot e2 e3 _ e4 hm4 hg4)
      have HE2 := Lib.hid e1
      clear c0 c1 c2 c3 k0 fd hm4 hg4 e1 e2 e3 e4 HE
      go_wp2
      go_end0
      exact ⟨rfl, by rw [HE2.out]; exact H4.out.1, (Fr.of_below H3.out.2.1).trans H4.out.2⟩
end Go.Proofs.Ytjjomfpkdbfhdaa

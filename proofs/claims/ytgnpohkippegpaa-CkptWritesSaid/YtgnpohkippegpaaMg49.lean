/-
  CkQ
-/
import Derived.Test.YtgnpohkippegpaaMg43
import Derived.Test.YtgnpohkippegpaaMg48
import Derived.Test.YtgnpohkippegpaaMg17
import Derived.Test.YtgnpohkippegpaaMg47
/-
  Layer 13's laws: the law Writes.
-/
namespace Go.Proofs.Ytgnpohkippegpaa
open Go.RowKit Geom Zone Dev Ckp Word
set_option linter.unusedVariables false

theorem mast_field4 (b : Bool) (g e s p u : Int) (w : World) : (Instr.field 26 (.agg #[.bool b, .int .i64 g, .int .i64 e, .int .i64 s, .int .i64 p, .int .u32 u]) 4).run Try.prog w = .ok (.int .i64 p) w := by
  unfold Instr.field
  simp only [Sem.run_bind, run_underlying Try.underlying26, Result.andThen]
  go_simp
  rfl
theorem big_at {α : Type} (P : Program) {w : World} {B : Nat} {ad : Addr} {f : α → List Value} {xs : List α} {m : Nat} (hr : Rd w B (some ad) (xs.flatMap f)) (hl : ∀ y ∈ xs, (f y).length = m) (hm : 0 < m) (k : Nat) (x : α) (hx : xs[k]? = some x) :
    (loadCellsFrom (ad.add (k * m)) 0 m #[]).run P w = .ok (f x).toArray w := by
  obtain ⟨ad', e, h⟩ := big_elem P hr hl hm k x hx
  injection e with e
  subst e
  exact h
/-- what lies in the cache -/
theorem lw_cached {w W : World} {X : List Nat} {d : Nat} {D : Dv} (h : DvSt w W X d D) : Calls Try.prog 14 #[dp d] W fun e W' => e = .returned (.int .i64 D.cache.length) ∧ W = W' := by
  obtain ⟨gz, cz, lb, cv, nb, hD, hown, hcv, _⟩ := h.1
  obtain ⟨A, c, rfl⟩ := own_slice hcv
  exact cached_any hD
theorem pad_tab {n P : Nat} {ys : List Int} (hP : Tbl.pages n = P) (h : TabOk n ys) : Tbl.padT (ys.take n) = ys := by
  have hl := h.len
  have hu := Tbl.pages_up n
  have ht : (ys.take n).length = n := by simp; omega
  unfold Tbl.padT
  rw [ht]
  apply List.ext_getElem?
  intro i
  rcases Nat.lt_or_ge i n with hi | hi
  · rw [List.getElem?_append_left (by omega), List.getElem?_take, if_pos hi]
  · rw [List.getElem?_append_right (by omega), List.getElem?_replicate, ht]
    have ho := h.out i hi
    rw [List.getD_eq_getElem?_getD] at ho
    split
    · have hb : i < ys.length := by omega
      rw [List.getElem?_eq_getElem hb] at ho ⊢
      simp at ho
      rw [ho]
    · rw [List.getElem?_eq_none (by omega)]
set_option maxRecDepth 100000 in
set_option maxHeartbeats 16000000 in
theorem cklaw_writes (conv soft seq size opn : Int) (m : Mast.Mst) (A1 : Option Addr) (n1 cp1 : Nat) (xs1 : List Int) (w : World) (h64 : W64 conv ∧ W64 soft ∧ W64 seq ∧ W64 size ∧ W64 opn) (hin : Mast.In m) (hm1 : n1 ≤ maxLen) (hl1 : xs1.length = n1) (hx1 : ∀ x ∈ xs1, 0 ≤ x ∧ x < 4294967296) (hr1 : Rd w w.heap.size A1 (u32s xs1)) :
    Calls Try.prog 3 #[gvl conv soft seq size opn, .agg (mcs m).toArray, .slice A1 n1 cp1] w fun e w' => e = .returned (.bool true) ∧ Below w.heap.size w w' := by
  have QW := Lib.hid fun w' => awake13_any w'
  have QL := Lib.hid fun w' => rcklittle_any conv soft seq size opn w' h64
  have HX1 := Lib.hid (And.intro hl1 (And.intro hx1 hr1))
  have hml1 := hm1
  unfold maxLen at hml1
  clear hl1 hx1 hr1 hm1
  clear h64
  go_enter Try.func3, Try.ntmps3
  go_wp2_with (first
    | ((with_reducible refine wpList_box_box _ (o := ⟨some 3, .box _ _, _, _, _, _⟩) rfl _ _ rfl (gcl conv soft seq size opn) rfl ?_); go_loud (intro w1 x0 hB0 hs0))
    | ((with_reducible refine wpList_box_box _ (o := ⟨some 4, .box _ _, _, _, _, _⟩) rfl _ _ rfl (mcs m) rfl ?_); go_loud (intro w2 x1 hB1 hs1; have HB := Lib.hid (show Box w2 w.heap.size 23 (gcl conv soft seq size opn) ∧ Box w2 w1.heap.size 26 (mcs m) ∧ Below w.heap.size w w2 from ⟨(x0.on hB1), x1, (bthen hB0 hB1)⟩); have HNb : Hid (w.heap.size < w1.heap.size) := Lib.hid (by omega); clear x0 hB0 hs0 x1 hB1 hs1; generalize w1.heap.size = bx1 at *))
    | fail)
  refine (QW.out _).mono ?_
  rintro e wa ⟨rfl, hba⟩
  replace HB := Lib.hid (show Box wa w.heap.size 23 (gcl conv soft seq size opn) ∧ Box wa bx1 26 (mcs m) ∧ Below w.heap.size w wa from ⟨HB.out.1.on hba, HB.out.2.1.on hba, bthen HB.out.2.2 hba⟩)
  clear hba
  have c0 : wa.cell? ⟨w.heap.size, 0, none⟩ = some (.int .i64 conv) := HB.out.1.cell 0
  have c1 : wa.cell? ⟨w.heap.size, 1, none⟩ = some (.int .i64 soft) := HB.out.1.cell 1
  have c2 : wa.cell? ⟨w.heap.size, 2, none⟩ = some (.int .i64 seq) := HB.out.1.cell 2
  have c3 : wa.cell? ⟨w.heap.size, 3, none⟩ = some (.int .i64 size) := HB.out.1.cell 3
  have c4 : wa.cell? ⟨w.heap.size, 4, none⟩ = some (.int .i64 opn) := HB.out.1.cell 4
  go_wp2_with fail
  refine (QL.out _).mono ?_
  rintro e wb ⟨rfl, hbb⟩
  replace HB := Lib.hid (show Box wb w.heap.size 23 (gcl conv soft seq size opn) ∧ Box wb bx1 26 (mcs m) ∧ Below w.heap.size w wb from ⟨HB.out.1.on hbb, HB.out.2.1.on hbb, bthen HB.out.2.2 hbb⟩)
  clear hbb c0 c1 c2 c3 c4
  cases hli : littleC conv soft seq size opn with
  | false =>
    go_wp2_with fail
    refine (QW.out _).mono ?_
    rintro e w9 ⟨rfl, hb9⟩
    have H9 := Lib.hid (bthen HB.out.2.2 hb9)
    clear hb9
    go_wp2
    go_ret
    exact ⟨rfl, H9.out⟩
  | true =>
    have HLi := Lib.hid (little_yes hli)
    clear hli QL
    by_cases h5 : 500 < n1
    · have h5' : (500 : Int) < n1 := by omega
      go_wp2_with fail
      refine (QW.out _).mono ?_
      rintro e w9 ⟨rfl, hb9⟩
      have H9 := Lib.hid (bthen HB.out.2.2 hb9)
      clear hb9
      go_wp2
      go_ret
      exact ⟨rfl, H9.out⟩
    have h5' : ¬ (500 : Int) < n1 := by omega
    obtain ⟨n, P, M⟩ := msr_of HLi.out.1
    have hP9 := M.little HLi.out.2.1 HLi.out.2.2.1
    have HM := Lib.hid (And.intro M hP9)
    have HHk : Hid ((((conv + seq).toNat : Nat) : Int) = conv + seq) := Lib.hid (by have h1 := M.ok.1; have h2 := M.ok.2.1; omega)
    clear M hP9
    have HIn := Lib.hid hin
    have HR := Lib.hid (rright8_any m)
    have HH1 : Hid (∀ W : World, Calls Try.prog 13 #[gvl conv soft seq size opn, .int .i64 1, .int .i64 1, .int .i64 1] W fun e W' => e = .returned (.agg #[.bool false, .int .i64 1, .int .i64 1, .int .i64 1, .int .i64 (P : Int), .int .u32 0]) ∧ Below W.heap.size W W') := Lib.hid (fun W => lw_head HM.out.1 1 1 1 W)
    have ht1 := tabOk_of (n := n) HX1.out.2.1
    have HT1 := Lib.hid fun (A : Option Addr) (c : Nat) (W : World) (hr : Rd W W.heap.size A (u32s xs1)) => lw_table HM.out.1 n1 c A xs1 W HX1.out.1 HX1.out.2.1 hr
    generalize tabY n xs1 = ys at ht1 HT1
    have sd0 := sd_new (k := (conv + seq).toNat) HM.out.1 HHk.out
    have hold := older_new (conv := conv) (soft := soft) (seq := seq) (size := size) (opn := opn) (k := (conv + seq).toNat) (n := n) HM.out.1.hP
    have HSD0 := Lib.hid sd0
    have HTb := Lib.hid ht1
    have HOld := Lib.hid hold
    have HTk := Lib.hid (show (ys.take n).length = n by have := ht1.len; have := Tbl.pages_up n; simp; omega)
    have HNm : Hid (n ≤ maxLen) := Lib.hid (by have := HM.out.1.n4; unfold maxLen; omega)
    clear sd0 ht1 hold hin
    generalize hD0 : newD conv soft seq size opn (conv + seq).toNat = D0 at HSD0 HOld
    have HD0 := Lib.hid hD0
    clear hD0
    obtain ⟨m6, hm6, hsz6⟩ := big_size (P := Try.prog) (t := 26) (s := 6) (by kernel_rfl)
    have hm60 : ¬ m6 = 0 := by omega
    have HM6 := Lib.hid hm6
    clear hm6
    have LA := Lib.hid fun (W : World) (b : Nat) (x : Mast.Mst) (h : Box W b 26 (mcs x)) => big_load0 Try.prog b 0 (mcs x) m6 (by rw [mcs_length, HM6.out]) W h.range0
    have c0 : wb.cell? ⟨w.heap.size, 0, none⟩ = some (.int .i64 conv) := HB.out.1.cell 0
    have c1 : wb.cell? ⟨w.heap.size, 1, none⟩ = some (.int .i64 soft) := HB.out.1.cell 1
    have c2 : wb.cell? ⟨w.heap.size, 2, none⟩ = some (.int .i64 seq) := HB.out.1.cell 2
    have c3 : wb.cell? ⟨w.heap.size, 3, none⟩ = some (.int .i64 size) := HB.out.1.cell 3
    have c4 : wb.cell? ⟨w.heap.size, 4, none⟩ = some (.int .i64 opn) := HB.out.1.cell 4
    go_wp2_with fail
    refine (lw_new HM.out.1 (w := w) (X := [bx1, w.heap.size]) HB.out.1 HB.out.2.2 (by have h1 := HB.out.1.lt; have h2 := HB.out.2.1.lt; intro b hb; simp at hb; omega) (by simp)).mono ?_
    rintro e w3 ⟨d, rfl, hL, hb3⟩
    rw [HD0.out] at hL
    have L3 := Lib.hid hL
    have B3 := Lib.hid (HB.out.2.1.on hb3)
    clear hL hb3 HB HD0 c0 c1 c2 c3 c4
    obtain ⟨c0, c1, c2, c3, c4⟩ := L3.out.cells
    go_wp2_with fail
    refine (HT1.out A1 cp1 _ ((HX1.out.2.2.below L3.out.dv.2.1).more L3.out.dv.2.1.size)).mono ?_
    rintro e w4 ⟨t1, g1, h1, ds1, rfl, hT, hbd, b4⟩
    have L4 := Lib.hid (L3.out.more b4 [t1, g1, h1] hbd)
    have B4 := Lib.hid (B3.out.on b4)
    have T4 := Lib.hid hT
    clear hT hbd b4 L3 B3 c0 c1 c2 c3 c4
    obtain ⟨c0, c1, c2, c3, c4⟩ := L4.out.cells
    have ca := LA.out _ _ _ B4.out
    go_wp2_with fail
    refine (lw_write HM.out.1 L4.out m HSD0.out.n (by have := HM.out.2; omega) T4.out (by simp) HTb.out.nar HIn.out).mono ?_
    rintro e w5 ⟨rfl, hl, hF⟩
    have L5 := Lib.hid hl
    have B5 := Lib.hid (hF.box B4.out (by simp))
    have T5 := Lib.hid (T4.out.tx hF (by simp))
    clear hl hF L4 B4 T4 ca c0 c1 c2 c3 c4
    cases hhd : headB m (P : Int) with
    | false =>
      have hck : ckW D0 m ys P = (1, D0) := by unfold ckW; rw [hhd]; rfl
      rw [hck] at L5 ⊢
      simp only at L5 ⊢
      unfold headB at hhd
      cases hok : Mast.okB m with
      | false =>
        rw [hok] at HR
        clear hhd hok hck
        go_wp2_with fail
        refine wp_region_class (fun w' => Below w5.heap.size w5 w') (by kernel_rfl) (by kernel_rfl) (Below.refl _ _).drew ?_
        intro X hX f hf hg
        have ca := fun x => LA.out _ _ _ (B5.out.on (hf x))
        have Hf := Lib.hid hf
        have Hg := Lib.hid hg
        clear hf hg
        try simp only [Act.put, List.setIfInBounds_toArray, List.set_cons_succ, List.set_cons_zero]
        repeat (go_big_quiet_step ((go_at_call 12; with_reducible exact calls_class (HR.out _) (fun _ hb => Hg.out _ (bthen (Hf.out _) hb)))))
        refine wpQuiet_nil ?_
        rintro _ ⟨x, rfl⟩
        have L6 := Lib.hid (L5.out.on (Hf.out x))
        have B6 := Lib.hid (B5.out.on (Hf.out x))
        have T6 := Lib.hid (T5.out.on (Hf.out x))
        clear ca Hf Hg hX L5 B5 T5 
        generalize f x = w6 at L6 B6 T6 ⊢
        have HCa := Lib.hid (lw_cached L6.out.dv)
        rw [HSD0.out.ca] at HCa
        have HB9 := Lib.hid L6.out.dv.2.1
        go_wp2_with fail
        refine HCa.out.mono ?_
        rintro e w7 ⟨rfl, rfl⟩
        go_wp2
        go_ret
        exact ⟨rfl, HB9.out⟩
      | true =>
        rw [hok] at HR hhd
        cases hft : m.foot with
        | true =>
          clear hhd hok hck
          go_wp2_with fail
          refine wp_region_class (fun w' => Below w5.heap.size w5 w') (by kernel_rfl) (by kernel_rfl) (Below.refl _ _).drew ?_
          intro X hX f hf hg
          have ca := fun x => LA.out _ _ _ (B5.out.on (hf x))
          have cf : ∀ x, (f x).cell? ⟨bx1, 0, none⟩ = some (.bool m.foot) := fun x => (B5.out.on (hf x)).ms.1
          rw [hft] at cf
          have Hf := Lib.hid hf
          have Hg := Lib.hid hg
          clear hf hg
          try simp only [Act.put, List.setIfInBounds_toArray, List.set_cons_succ, List.set_cons_zero]
          repeat (go_big_quiet_step ((go_at_call 12; with_reducible exact calls_class (HR.out _) (fun _ hb => Hg.out _ (bthen (Hf.out _) hb)))))
          refine wpQuiet_nil ?_
          rintro _ ⟨x, rfl⟩
          have L6 := Lib.hid (L5.out.on (Hf.out x))
          have B6 := Lib.hid (B5.out.on (Hf.out x))
          have T6 := Lib.hid (T5.out.on (Hf.out x))
          clear ca Hf Hg hX L5 B5 T5 cf
          generalize f x = w6 at L6 B6 T6 ⊢
          have HCa := Lib.hid (lw_cached L6.out.dv)
          rw [HSD0.out.ca] at HCa
          have HB9 := Lib.hid L6.out.dv.2.1
          go_wp2_with fail
          refine HCa.out.mono ?_
          rintro e w7 ⟨rfl, rfl⟩
          go_wp2
          go_ret
          exact ⟨rfl, HB9.out⟩
        | false =>
          rw [hft] at hhd
          have hpg : (m.pages == (P : Int)) = false := by simpa using hhd
          have hpg2 : (m.pages != (P : Int)) = true := by simp only [bne, hpg, Bool.not_false]
          clear hhd hok hck
          go_wp2_with fail
          refine wp_region_class (fun w' => Below w5.heap.size w5 w') (by kernel_rfl) (by kernel_rfl) (Below.refl _ _).drew ?_
          intro X hX f hf hg
          have ca := fun x => LA.out _ _ _ (B5.out.on (hf x))
          have cf : ∀ x, (f x).cell? ⟨bx1, 0, none⟩ = some (.bool m.foot) := fun x => (B5.out.on (hf x)).ms.1
          rw [hft] at cf
          have hfl := fun w' => mast_field4 false 1 1 1 (P : Int) 0 w'
          have cp : ∀ x, (f x).cell? ⟨bx1, 4, none⟩ = some (.int .i64 m.pages) := fun x => (B5.out.on (hf x)).ms.2.2.2.2.1
          have c0 : ∀ x, (f x).cell? ⟨w.heap.size, 0, none⟩ = some (.int .i64 conv) := fun x => (L5.out.on (hf x)).ge.cell 0
          have c1 : ∀ x, (f x).cell? ⟨w.heap.size, 1, none⟩ = some (.int .i64 soft) := fun x => (L5.out.on (hf x)).ge.cell 1
          have c2 : ∀ x, (f x).cell? ⟨w.heap.size, 2, none⟩ = some (.int .i64 seq) := fun x => (L5.out.on (hf x)).ge.cell 2
          have c3 : ∀ x, (f x).cell? ⟨w.heap.size, 3, none⟩ = some (.int .i64 size) := fun x => (L5.out.on (hf x)).ge.cell 3
          have c4 : ∀ x, (f x).cell? ⟨w.heap.size, 4, none⟩ = some (.int .i64 opn) := fun x => (L5.out.on (hf x)).ge.cell 4
          have Hf := Lib.hid hf
          have Hg := Lib.hid hg
          clear hf hg
          try simp only [Act.put, List.setIfInBounds_toArray, List.set_cons_succ, List.set_cons_zero]
          repeat (go_big_quiet_step (first | (go_at_call 12; with_reducible exact calls_class (HR.out _) (fun _ hb => Hg.out _ (bthen (Hf.out _) hb))) | (go_at_call 13; with_reducible exact calls_class (HH1.out _) (fun _ hb => Hg.out _ (bthen (Hf.out _) hb)))))
          refine wpQuiet_nil ?_
          rintro _ ⟨x, rfl⟩
          have L6 := Lib.hid (L5.out.on (Hf.out x))
          have B6 := Lib.hid (B5.out.on (Hf.out x))
          have T6 := Lib.hid (T5.out.on (Hf.out x))
          clear ca Hf Hg hX L5 B5 T5 cf cp hfl c0 c1 c2 c3 c4
          generalize f x = w6 at L6 B6 T6 ⊢
          have HCa := Lib.hid (lw_cached L6.out.dv)
          rw [HSD0.out.ca] at HCa
          have HB9 := Lib.hid L6.out.dv.2.1
          go_wp2_with fail
          refine HCa.out.mono ?_
          rintro e w7 ⟨rfl, rfl⟩
          go_wp2
          go_ret
          exact ⟨rfl, HB9.out⟩
    | true =>
      obtain ⟨D5, e5, sd5, _, p5, _, q5, _⟩ := turn_core HSD0.out (by have := HM.out.2; omega) HM.out.1.hP HM.out.1.n4 hhd HIn.out HTb.out HOld.out (by have h := (of_decide_eq_true (head_iff.1 hhd).1 : Mast.Ok m).1.1; omega)
      obtain ⟨hok, hft, hpg⟩ := head_iff.1 hhd
      have HOk : Hid (Mast.Ok m) := Lib.hid (of_decide_eq_true hok)
      have HSD5 := Lib.hid sd5
      have HP5 := Lib.hid p5
      have hg0 : 0 ≤ m.gen := by have := HOk.out.1.1; omega
      have HSc : Hid (∀ (z : Nat) (W : World), Rd W W.heap.size (some ⟨z, 0, none⟩) (is (ys.take n)) → Calls Try.prog 15 #[.agg (mcs m).toArray, .slice (some ⟨z, 0, none⟩) n n] W fun e W' => ∃ V, e = .returned V ∧ W'.ownsRow W.heap.size 45 64 V (P + 2) (pgcs (secs m ys P)) ∧ Below W.heap.size W W') := Lib.hid fun z W hr => by
        have h := rcksectors_any m (some ⟨z, 0, none⟩) n n P (ys.take n) W HOk.out HIn.out HTk.out HM.out.1.n4 HM.out.1.hP (by rw [pad_tab HM.out.1.hP HTb.out]; exact HTb.out.nar) hr
        rwa [pad_tab HM.out.1.hP HTb.out] at h
      have HAl : Hid (∀ (W : World) (X : List Nat), DvSt w W X d D5 → Calls Try.prog 17 #[dp d, gvl conv soft seq size opn, .int .i64 (m.gen % 2)] W fun e W' => ∃ V, e = .returned V ∧ W'.ownsRow W.heap.size 45 64 V (P + 2) (pgcs (secs m ys P)) ∧ DevIs (TX w.heap.size X) W' d D5 ∧ Fr (TX w.heap.size X) W W') := Lib.hid fun W X h => by
        have h2 := rckall_any (T := TX w.heap.size X) conv soft seq size opn (m.gen % 2) P (P + 2) HM.out.1.ok.some HM.out.1.hPg rfl (by omega) h.hT sd5.n.ok sd5.up sd5.so h.1
        rwa [q5] at h2
      have HSl := Lib.hid (secs_length m ys P)
      have HS64 : Hid (P64 (secs m ys P)) := Lib.hid (secs_64 (by rw [← HM.out.1.hP]; exact HTb.out.len))
      rw [e5] at L5 ⊢
      simp only at L5 ⊢
      rw [hok] at HR
      have hpg1 : (m.pages == (P : Int)) = true := by simpa using hpg
      have hpg2 : (m.pages != (P : Int)) = false := by simp only [bne, hpg1, Bool.not_true]
      have HPl := HM.out.2
      clear e5 sd5 p5 q5 hhd hok hpg hpg1 HOld HSD0
      generalize secs m ys P = sl at *
      go_wp2_with fail
      refine wp_region_class (fun w' => Below w5.heap.size w5 w') (by kernel_rfl) (by kernel_rfl) (Below.refl _ _).drew ?_
      intro X hX f hf hg
      have ca := fun x => LA.out _ _ _ (B5.out.on (hf x))
      have cf : ∀ x, (f x).cell? ⟨bx1, 0, none⟩ = some (.bool m.foot) := fun x => (B5.out.on (hf x)).ms.1
      rw [hft] at cf
      have hfl := fun w' => mast_field4 false 1 1 1 (P : Int) 0 w'
      have cp : ∀ x, (f x).cell? ⟨bx1, 4, none⟩ = some (.int .i64 m.pages) := fun x => (B5.out.on (hf x)).ms.2.2.2.2.1
      have c0 : ∀ x, (f x).cell? ⟨w.heap.size, 0, none⟩ = some (.int .i64 conv) := fun x => (L5.out.on (hf x)).ge.cell 0
      have c1 : ∀ x, (f x).cell? ⟨w.heap.size, 1, none⟩ = some (.int .i64 soft) := fun x => (L5.out.on (hf x)).ge.cell 1
      have c2 : ∀ x, (f x).cell? ⟨w.heap.size, 2, none⟩ = some (.int .i64 seq) := fun x => (L5.out.on (hf x)).ge.cell 2
      have c3 : ∀ x, (f x).cell? ⟨w.heap.size, 3, none⟩ = some (.int .i64 size) := fun x => (L5.out.on (hf x)).ge.cell 3
      have c4 : ∀ x, (f x).cell? ⟨w.heap.size, 4, none⟩ = some (.int .i64 opn) := fun x => (L5.out.on (hf x)).ge.cell 4
      have Hf := Lib.hid hf
      have Hg := Lib.hid hg
      clear hf hg
      try simp only [Act.put, List.setIfInBounds_toArray, List.set_cons_succ, List.set_cons_zero]
      repeat (go_big_quiet_step (first | (go_at_call 12; with_reducible exact calls_class (HR.out _) (fun _ hb => Hg.out _ (bthen (Hf.out _) hb))) | (go_at_call 13; with_reducible exact calls_class (HH1.out _) (fun _ hb => Hg.out _ (bthen (Hf.out _) hb)))))
      refine wpQuiet_nil ?_
      rintro _ ⟨x, rfl⟩
      have L6 := Lib.hid (L5.out.on (Hf.out x))
      have B6 := Lib.hid (B5.out.on (Hf.out x))
      have T6 := Lib.hid (T5.out.on (Hf.out x))
      clear ca Hf Hg hX L5 B5 T5 cf cp hfl c0 c1 c2 c3 c4 hft hpg2
      generalize f x = w6 at L6 B6 T6 ⊢
      have HCa := Lib.hid (lw_cached L6.out.dv)
      rw [HSD5.out.ca] at HCa
      go_wp2_with fail
      refine HCa.out.mono ?_
      rintro e w7 ⟨rfl, rfl⟩
      clear HCa
      go_wp2_with fail
      refine wp_region_held_drew (S := (fun w' => Box w' bx1 26 (mcs m))) (by kernel_rfl) (B6.out.on (Below.refl _ _).drew) (fun hHeld => ?_)
      refine wpAnyH_take (i := 0) (oi := ⟨some 68, .load _ _, _, _, _, _⟩) (v := ?v158) rfl (by kernel_rfl) (by kernel_rfl) (by kernel_rfl) (fun _ _ _ h => h) (Or.inl ⟨by rfl, ?hy158⟩) (by assumption) ?rest158
      case hy158 =>
        intro w hSw
        have ca := LA.out _ _ _ hSw
        go_simp
        try with_reducible rfl
      try simp only [Act.put, List.setIfInBounds_toArray, List.set_cons_zero, List.set_cons_succ]
      refine wpAnyH_take (i := 1) (oi := ⟨some 69, .move _, _, _, _, _⟩) (v := ?v159) rfl (by kernel_rfl) (by kernel_rfl) (by kernel_rfl) (fun _ _ _ h => h) (Or.inl ⟨by rfl, ?hy159⟩) (by assumption) ?rest159
      case hy159 =>
        intro w hSw

        go_simp
        try with_reducible rfl
      try simp only [Act.put, List.setIfInBounds_toArray, List.set_cons_zero, List.set_cons_succ]
      refine wpAnyH_ready (rs := [2]) (by kernel_rfl) (by simp) ?_
      refine AllReadyH.cons (o := ⟨some 70, .call _, _, _, _, _⟩) rfl (fun K hK => ?_) AllReadyH.nil
      go_simp
      refine (tplaces_any _ (T6.out.on (Below.refl _ _).drew)).mono ?_
      rintro e y1 ⟨z1, rfl, zb1, zl1, b1⟩
      have K1 := bthen (Below.refl _ _).drew b1
      have L7 := Lib.hid (L6.out.on K1)
      have B7 := Lib.hid (B6.out.on K1)
      have T7 := Lib.hid (T6.out.on K1)
      have Z7 := Lib.hid zb1
      clear K1 b1 zb1 zl1 L6 B6 T6
      go_wp2_with fail
      clear hHeld
      refine hK.out _ _ (B7.out) (fun hHeld => ?_)
      clear hK K
      try simp only [Act.put, List.setIfInBounds_toArray, List.set_cons_zero, List.set_cons_succ]
      refine wpAnyH_ready (rs := [3]) (by kernel_rfl) (by simp) ?_
      refine AllReadyH.cons (o := ⟨some 71, .call _, _, _, _, _⟩) rfl (fun K hK => ?_) AllReadyH.nil
      go_simp
      refine (HSc.out z1 _ (Z7.out.rd Z7.out.lt)).mono ?_
      rintro e y2 ⟨V, rfl, hrow, b2⟩
      obtain ⟨br, cr, rfl, hbr, hbr2⟩ := hrow.form (by omega)
      have L8 := Lib.hid (L7.out.more b2 [br] (by intro b hb; simp at hb; omega))
      have B8 := Lib.hid (B7.out.on b2)
      have T8 := Lib.hid (T7.out.on b2)
      have R8 := Lib.hid hrow
      clear hrow b2 hbr hbr2 L7 B7 T7 Z7
      go_wp2_with fail
      clear hHeld
      refine hK.out _ _ (B8.out) (fun hHeld => ?_)
      clear hK K
      try simp only [Act.put, List.setIfInBounds_toArray, List.set_cons_zero, List.set_cons_succ]
      refine wpAnyH_take (i := 4) (oi := ⟨some 10, .assign _, _, _, _, _⟩) (v := ?v160) rfl (by kernel_rfl) (by kernel_rfl) (by kernel_rfl) (fun _ _ _ h => h) (Or.inl ⟨by rfl, ?hy160⟩) (by assumption) ?rest160
      case hy160 =>
        intro w hSw

        go_simp
        try with_reducible rfl
      try simp only [Act.put, List.setIfInBounds_toArray, List.set_cons_zero, List.set_cons_succ]
      refine wpAnyH_done (by kernel_rfl) ?_ _
      clear hHeld
      obtain ⟨c0, c1, c2, c3, c4⟩ := L8.out.cells
      have cg : y2.cell? ⟨bx1, 1, none⟩ = some (.int .i64 m.gen) := B8.out.ms.2.1
      go_wp2_with fail
      refine (HAl.out _ _ L8.out.dv).mono ?_
      rintro e w9 ⟨V2, rfl, hrow2, hI, hF⟩
      have L9 := Lib.hid (L8.out.put hI hF)
      have B9 := Lib.hid (hF.box B8.out (by simp))
      have T9 := Lib.hid (T8.out.tx hF (by simp))
      have R9 := Lib.hid (own_same R8.out fun g hg => hF.same (R8.out.lt g hg).2 (fun ht => ht.2 (by
        have e : some br = some g := hg
        injection e with e
        subst e
        simp)))
      obtain ⟨A2, c2', rfl⟩ := own_slice hrow2
      have RW := Lib.hid (Rd.own R9.out)
      have RG := Lib.hid (Rd.own hrow2)
      clear hrow2 hI hF R8 R9 L8 B8 T8 cg c0 c1 c2 c3 c4
      generalize (⟨br, 0, none⟩ : Addr) = adW at RW ⊢
      obtain ⟨m8, hm8, hsz8⟩ := big_size (P := Try.prog) (t := 45) (s := 64) (by kernel_rfl)
      have hm80 : ¬ m8 = 0 := by omega
      have HM8 := Lib.hid hm8
      clear hm8
      go_wp2_with fail
      go_loopw [12] (fun i wr => ∃ k : Nat, k ≤ P + 2 ∧ i = .int .i64 k ∧ Below w9.heap.size w9 wr) (fun i _ => P + 2 - (intOf i).toNat)
      case atStart => exact ⟨0, by omega, rfl, Below.refl _ _⟩
      case round =>
        obtain ⟨k, hk, rfl, hbl⟩ := hrel
        have HBl := Lib.hid hbl
        clear hbl
        by_cases hlt : k < P + 2
        · obtain ⟨p, hpk⟩ : ∃ p, sl[k]? = some p := ⟨sl[k]'(by rw [HSl.out]; exact hlt), List.getElem?_eq_getElem _⟩
          have hp64 := HS64.out p (List.mem_of_getElem? hpk)
          obtain ⟨ad2, rfl, _⟩ := big_elem Try.prog (m := m8) RG.out (fun y hy => (HS64.out.bs y hy).trans HM8.out.symm) (by omega) k p hpk
          have HPk := Lib.hid hpk
          have hq := fun w' => pg_equal w' p p hp64 hp64
          rw [beq_self_eq_true] at hq
          have hgd := pg_guard
          clear hpk
          go_wp2_with fail
          refine wp_region_class (fun w' => Below wr.heap.size wr w') (by kernel_rfl) (by kernel_rfl) (Below.refl _ _).drew ?_
          intro X hX f hf hg
          have lw1 := fun x => big_at Try.prog (m := m8) (RW.out.below (bthen HBl.out (hf x))) (fun y hy => (HS64.out.bs y hy).trans HM8.out.symm) (by omega) k p HPk.out
          have lw2 := fun x => big_at Try.prog (m := m8) (RG.out.below (bthen HBl.out (hf x))) (fun y hy => (HS64.out.bs y hy).trans HM8.out.symm) (by omega) k p HPk.out
          have Hf := Lib.hid hf
          have Hg := Lib.hid hg
          clear hf hg
          try simp only [Act.put, List.setIfInBounds_toArray, List.set_cons_succ, List.set_cons_zero]
          repeat (go_big_quiet_step (fail))
          refine wpQuiet_nil ?_
          rintro _ ⟨x, rfl⟩
          have HBn := Lib.hid (bthen HBl.out (Hf.out x))
          clear lw1 lw2 hq hgd Hf Hg hX HBl
          generalize f x = wn at HBn ⊢
          go_wp2
          go_roundw
          case rel => exact ⟨k + 1, by omega, by go_num, HBn.out⟩
          case measure => simp [intOf]; omega
        · obtain rfl : k = P + 2 := by omega
          have LE0 := Lib.hid (L9.out.on HBl.out)
          have BM := Lib.hid (B9.out.on HBl.out)
          have TM := Lib.hid (T9.out.on HBl.out)
          clear L9 B9 T9 RW RG HBl
          obtain ⟨c0, c1, c2, c3, c4⟩ := LE0.out.cells
          go_wp2_with fail
          refine (lw_pick HM.out.1 LE0.out HSD5.out.n.ok HSD5.out.od HSD5.out.up HSD5.out.so).mono ?_
          rw [HP5.out]
          rintro e wP ⟨hp, hF⟩
          unfold LwPk at hp
          obtain ⟨dt, gt, ht, rfl, htb, hL⟩ := hp
          have LP := Lib.hid hL
          have VP := Lib.hid htb
          have TMP := Lib.hid (TM.out.tx hF (by simp))
          have BMP := Lib.hid (hF.box BM.out (by simp))
          have hqm := fun w' => equal_mast w' m m
          rw [(msEq_iff m m).2 rfl] at hqm
          have hgm := guard_mast
          clear BM hL hF htb c0 c1 c2 c3 c4 LE0 TM
          simp only at VP
          go_wp2_with (first
            | ((with_reducible refine wpList_ms_alloc (o := ⟨some 13, .alloc _, _, _, _, _⟩) rfl rfl ?_); intro wD xD hBD hsD)
            | ((with_reducible refine wpList_ms_store (o := ⟨none, .store _ (.tmp 13) _, _, _, _, _⟩) rfl _ _ rfl wP.heap.size m Mast.m0 rfl rfl xD ?_); go_loud (intro wE xE hgE hsE; have KE := below_stored hBD hgE hBD.size (Nat.le_refl _); have LE := Lib.hid (LP.out.more KE [wP.heap.size] (by have h1 := hBD.size; have h2 := xE.lt; intro b hb; simp at hb; omega)); have BE := Lib.hid xE; have BME := Lib.hid (BMP.out.on KE); have caN := LA.out _ _ _ xE; have caM := LA.out _ _ _ BME.out; clear BMP;have VE := Lib.hid (VP.out.on KE); have TME := Lib.hid (TMP.out.on KE); clear xD hBD hsD xE hgE hsE KE LP VP TMP; generalize wP.heap.size = b13 at *))
            | fail)
          refine (tplaces_any wE VE.out).mono ?_
          rintro e wF ⟨z2, rfl, zb1, zl1, b1⟩
          have LF := Lib.hid (LE.out.on b1)
          have TF := Lib.hid (TME.out.on b1)
          have ZF := Lib.hid zb1
          clear zb1 zl1 b1 LE BE VE TME BME caN caM hqm hgm
          go_wp2_with fail
          refine (tplaces_any wF TF.out).mono ?_
          rintro e wG ⟨z3, rfl, zb2, zl2, b2⟩
          have LG := Lib.hid (LF.out.on b2)
          have ZG := Lib.hid (ZF.out.on b2)
          have YG := Lib.hid zb2
          clear zb2 zl2 b2 LF TF ZF
          go_wp2_with fail
          refine (isame_any (some ⟨z2, 0, none⟩) (some ⟨z3, 0, none⟩) n n n n wG HNm.out HNm.out _ _ HTk.out HTk.out wG.heap.size (ZG.out.rd ZG.out.lt) (YG.out.rd YG.out.lt)).mono ?_
          rintro e wH ⟨rfl, q4, rfl⟩
          have HB9 := Lib.hid (LG.out.on (below_draws (Below.refl _ _) q4)).dv.2.1
          clear LG ZG YG
          rw [beq_self_eq_true]
          go_wp2
          go_ret
          exact ⟨rfl, HB9.out⟩

end Go.Proofs.Ytgnpohkippegpaa

/-
  The walk of the law GeomBack.
-/
import Derived.Test.YtcpnbdncdkcklaaGeomK
import Derived.Deep.DeepCutAuto
namespace Go.Proofs.Ytcpnbdncdkcklaa
open Go.RowKit Geom
set_option linter.unusedVariables false

set_option maxRecDepth 100000 in
set_option maxHeartbeats 4000000 in
theorem seat_in (conv soft seq size opn zone off n zn on m : Int) (w : World) (hm : 0 < m)
    (HB : ∀ w, Calls Try.prog 9 #[.agg #[.int .i64 conv, .int .i64 soft, .int .i64 seq, .int .i64 size, .int .i64 opn]] w fun e w' => e = .returned (.bool true) ∧ Below w.heap.size w w')
    (HN : ∀ w, Calls Try.prog 20 #[.agg #[.int .i64 conv, .int .i64 soft, .int .i64 seq, .int .i64 size, .int .i64 opn], .agg #[.int .i64 zone, .int .i64 off]] w fun e w' => e = .returned (.int .i64 m) ∧ Below w.heap.size w w')
    (HAt : ∀ w, Calls Try.prog 18 #[.agg #[.int .i64 conv, .int .i64 soft, .int .i64 seq, .int .i64 size, .int .i64 opn], .int .i64 m] w fun e w' => e = .returned (.tuple #[.agg #[.int .i64 zone, .int .i64 off], .bool true]) ∧ Below w.heap.size w w')
    (HX : ∀ w, Calls Try.prog 18 #[.agg #[.int .i64 conv, .int .i64 soft, .int .i64 seq, .int .i64 size, .int .i64 opn], .int .i64 n] w fun e w' => e = .returned (.tuple #[.agg #[.int .i64 zn, .int .i64 on], .bool true]) ∧ Below w.heap.size w w')
    (HM : ∀ w, Calls Try.prog 20 #[.agg #[.int .i64 conv, .int .i64 soft, .int .i64 seq, .int .i64 size, .int .i64 opn], .agg #[.int .i64 zn, .int .i64 on]] w fun e w' => e = .returned (.int .i64 n) ∧ Below w.heap.size w w')
    (HZ : ∀ w, Calls Try.prog 16 #[.agg #[.int .i64 conv, .int .i64 soft, .int .i64 seq, .int .i64 size, .int .i64 opn], .int .i64 zn] w fun e w' => e = .returned (.int .i64 size) ∧ Below w.heap.size w w')
    (hz1 : conv ≤ zn) (hz2 : on < size) :
    Calls Try.prog 5 #[.agg #[.int .i64 conv, .int .i64 soft, .int .i64 seq, .int .i64 size, .int .i64 opn], .agg #[.int .i64 zone, .int .i64 off], .int .i64 n] w fun e w' => e = .returned (.bool true) ∧ Below w.heap.size w w' := by
  have H0 := Lib.hid (Two.new w conv soft seq size opn zone off 23 30)
  replace HB := Lib.hid HB
  replace HN := Lib.hid HN
  replace HAt := Lib.hid HAt
  replace HX := Lib.hid HX
  replace HM := Lib.hid HM
  replace HZ := Lib.hid HZ
  have hm0 : ((m : Int) == 0) = false := by rw [beq_eq_false_iff_ne]; omega
  go_enter Try.func5, Try.ntmps5
  go_wp2_with fail
  generalize World.alloc _ _ = w0 at H0 ⊢
  refine (awake3_any _).mono ?_
  rintro e w1 ⟨rfl, hb⟩
  have h1 := Two.below H0.out hb
  clear H0 hb
  obtain ⟨c0, c1, c2, c3, c4, d0, d1, hlt, hbl⟩ := id h1
  go_wp2_with fail
  refine (HB.out _).mono ?_
  rintro e w2 ⟨rfl, hb⟩
  have h2 := Two.below h1 hb
  clear c0 c1 c2 c3 c4 d0 d1 hlt hbl h1 hb
  obtain ⟨c0, c1, c2, c3, c4, d0, d1, hlt, hbl⟩ := id h2
  go_wp2_with fail
  refine (HN.out _).mono ?_
  rintro e w3 ⟨rfl, hb⟩
  have h3 := Two.below h2 hb
  clear c0 c1 c2 c3 c4 d0 d1 hlt hbl h2 hb
  obtain ⟨c0, c1, c2, c3, c4, d0, d1, hlt, hbl⟩ := id h3
  go_wp2_with fail
  refine (HAt.out _).mono ?_
  rintro e w4 ⟨rfl, hb⟩
  have h4 := Two.below h3 hb
  clear c0 c1 c2 c3 c4 d0 d1 hlt hbl h3 hb
  have hx := LiesAt.new w4 zone off 30 (0, 0)
  have h5 := Two.below h4 ((Below.refl _ _).alloc (Nat.le_refl _) (.cells #[.int .i64 zone, .int .i64 off] 30))
  obtain ⟨c0, c1, c2, c3, c4, d0, d1, hlt, hbl⟩ := id h4
  clear h4
  go_upto_region 5 with (fail)
  clear c0 c1 c2 c3 c4 d0 d1 hlt hbl
  generalize World.alloc _ _ = w5 at hx h5 ⊢
  generalize w4.heap.size = bx at hx ⊢
  obtain ⟨c0, c1, c2, c3, c4, d0, d1, hlt, hbl⟩ := id h5
  obtain ⟨e0, e1, hlx⟩ := id hx
  go_wp2_with fail
  clear c0 c1 c2 c3 c4 d0 d1 hlt hbl e0 e1 hlx hx
  refine (HX.out _).mono ?_
  rintro e w6 ⟨rfl, hb⟩
  have h6 := Two.below h5 hb
  clear h5 hb
  have h7 := Two.below h6 ((Below.refl _ _).alloc (Nat.le_refl _) (.cells #[.int .i64 zn, .int .i64 on] 30))
  have hy := LiesAt.new w6 zn on 30 (0, 0)
  obtain ⟨c0, c1, c2, c3, c4, d0, d1, hlt, hbl⟩ := id h6
  clear h6
  go_wp2_with fail
  clear c0 c1 c2 c3 c4 d0 d1 hlt hbl
  generalize World.alloc _ _ = w7 at hy h7 ⊢
  generalize w6.heap.size = bx at hy ⊢
  have hS := Lib.hid (show Two w w7.drew conv soft seq size opn zone off ∧ LiesAt w7.drew bx zn on from ⟨h7.drew, hy⟩)
  clear h7 hy
  refine wp_region_class (fun w' => Two w w' conv soft seq size opn zone off ∧ LiesAt w' bx zn on) (by kernel_rfl) (by kernel_rfl) hS.out ?_
  intro X hX f hf hg
  have c0 := fun x => (hf x).1.1
  have c1 := fun x => (hf x).1.2.1
  have c2 := fun x => (hf x).1.2.2.1
  have c3 := fun x => (hf x).1.2.2.2.1
  have c4 := fun x => (hf x).1.2.2.2.2.1
  have d0 := fun x => (hf x).1.2.2.2.2.2.1
  have d1 := fun x => (hf x).1.2.2.2.2.2.2.1
  have e0 := fun x => (hf x).2.1
  have e1 := fun x => (hf x).2.2.1
  have Hf := Lib.hid hf
  have Hg := Lib.hid hg
  clear hf hg
  repeat (go_big_quiet_step (first | (go_at_call 20; exact calls_class (HM.out _) (fun _ hb => Hg.out _ (⟨(Hf.out _).1.below hb, (Hf.out _).2.below hb⟩))) | (go_at_call 16; exact calls_class (HZ.out _) (fun _ hb => Hg.out _ (⟨(Hf.out _).1.below hb, (Hf.out _).2.below hb⟩)))))
  refine wpQuiet_nil ?_
  rintro _ ⟨z, rfl⟩
  have hz := Hf.out z
  clear c0 c1 c2 c3 c4 d0 d1 e0 e1 Hf Hg
  generalize f z = wz at hz ⊢
  clear z f hX
  go_wp2
  go_ret
  exact ⟨rfl, hz.1.2.2.2.2.2.2.2.2⟩

set_option maxRecDepth 100000 in
set_option maxHeartbeats 4000000 in
theorem seat_out (conv soft seq size opn zone off n zn on m : Int) (w : World) (hm : 0 < m)
    (HB : ∀ w, Calls Try.prog 9 #[.agg #[.int .i64 conv, .int .i64 soft, .int .i64 seq, .int .i64 size, .int .i64 opn]] w fun e w' => e = .returned (.bool true) ∧ Below w.heap.size w w')
    (HN : ∀ w, Calls Try.prog 20 #[.agg #[.int .i64 conv, .int .i64 soft, .int .i64 seq, .int .i64 size, .int .i64 opn], .agg #[.int .i64 zone, .int .i64 off]] w fun e w' => e = .returned (.int .i64 m) ∧ Below w.heap.size w w')
    (HAt : ∀ w, Calls Try.prog 18 #[.agg #[.int .i64 conv, .int .i64 soft, .int .i64 seq, .int .i64 size, .int .i64 opn], .int .i64 m] w fun e w' => e = .returned (.tuple #[.agg #[.int .i64 zone, .int .i64 off], .bool true]) ∧ Below w.heap.size w w')
    (HX : ∀ w, Calls Try.prog 18 #[.agg #[.int .i64 conv, .int .i64 soft, .int .i64 seq, .int .i64 size, .int .i64 opn], .int .i64 n] w fun e w' => e = .returned (.tuple #[.agg #[.int .i64 zn, .int .i64 on], .bool false]) ∧ Below w.heap.size w w') :
    Calls Try.prog 5 #[.agg #[.int .i64 conv, .int .i64 soft, .int .i64 seq, .int .i64 size, .int .i64 opn], .agg #[.int .i64 zone, .int .i64 off], .int .i64 n] w fun e w' => e = .returned (.bool true) ∧ Below w.heap.size w w' := by
  have H0 := Lib.hid (Two.new w conv soft seq size opn zone off 23 30)
  replace HB := Lib.hid HB
  replace HN := Lib.hid HN
  replace HAt := Lib.hid HAt
  replace HX := Lib.hid HX
  have hm0 : ((m : Int) == 0) = false := by rw [beq_eq_false_iff_ne]; omega
  go_enter Try.func5, Try.ntmps5
  go_wp2_with fail
  generalize World.alloc _ _ = w0 at H0 ⊢
  refine (awake3_any _).mono ?_
  rintro e w1 ⟨rfl, hb⟩
  have h1 := Two.below H0.out hb
  clear H0 hb
  obtain ⟨c0, c1, c2, c3, c4, d0, d1, hlt, hbl⟩ := id h1
  go_wp2_with fail
  refine (HB.out _).mono ?_
  rintro e w2 ⟨rfl, hb⟩
  have h2 := Two.below h1 hb
  clear c0 c1 c2 c3 c4 d0 d1 hlt hbl h1 hb
  obtain ⟨c0, c1, c2, c3, c4, d0, d1, hlt, hbl⟩ := id h2
  go_wp2_with fail
  refine (HN.out _).mono ?_
  rintro e w3 ⟨rfl, hb⟩
  have h3 := Two.below h2 hb
  clear c0 c1 c2 c3 c4 d0 d1 hlt hbl h2 hb
  obtain ⟨c0, c1, c2, c3, c4, d0, d1, hlt, hbl⟩ := id h3
  go_wp2_with fail
  refine (HAt.out _).mono ?_
  rintro e w4 ⟨rfl, hb⟩
  have h4 := Two.below h3 hb
  clear c0 c1 c2 c3 c4 d0 d1 hlt hbl h3 hb
  have hx := LiesAt.new w4 zone off 30 (0, 0)
  have h5 := Two.below h4 ((Below.refl _ _).alloc (Nat.le_refl _) (.cells #[.int .i64 zone, .int .i64 off] 30))
  obtain ⟨c0, c1, c2, c3, c4, d0, d1, hlt, hbl⟩ := id h4
  clear h4
  go_upto_region 5 with (fail)
  clear c0 c1 c2 c3 c4 d0 d1 hlt hbl
  generalize World.alloc _ _ = w5 at hx h5 ⊢
  generalize w4.heap.size = bx at hx ⊢
  obtain ⟨c0, c1, c2, c3, c4, d0, d1, hlt, hbl⟩ := id h5
  obtain ⟨e0, e1, hlx⟩ := id hx
  go_wp2_with fail
  clear c0 c1 c2 c3 c4 d0 d1 hlt hbl e0 e1 hlx hx
  refine (HX.out _).mono ?_
  rintro e w6 ⟨rfl, hb⟩
  have h6 := Two.below h5 hb
  clear h5 hb
  have h7 := Two.below h6 ((Below.refl _ _).alloc (Nat.le_refl _) (.cells #[.int .i64 zn, .int .i64 on] 30))
  have hy := LiesAt.new w6 zn on 30 (0, 0)
  obtain ⟨c0, c1, c2, c3, c4, d0, d1, hlt, hbl⟩ := id h6
  clear h6
  go_wp2_with fail
  clear c0 c1 c2 c3 c4 d0 d1 hlt hbl
  generalize World.alloc _ _ = w7 at hy h7 ⊢
  generalize w6.heap.size = bx at hy ⊢
  have hS := Lib.hid (show Two w w7.drew conv soft seq size opn zone off ∧ LiesAt w7.drew bx zn on from ⟨h7.drew, hy⟩)
  clear h7 hy
  refine wp_region_class (fun w' => Two w w' conv soft seq size opn zone off ∧ LiesAt w' bx zn on) (by kernel_rfl) (by kernel_rfl) hS.out ?_
  intro X hX f hf hg
  have c0 := fun x => (hf x).1.1
  have c1 := fun x => (hf x).1.2.1
  have c2 := fun x => (hf x).1.2.2.1
  have c3 := fun x => (hf x).1.2.2.2.1
  have c4 := fun x => (hf x).1.2.2.2.2.1
  have d0 := fun x => (hf x).1.2.2.2.2.2.1
  have d1 := fun x => (hf x).1.2.2.2.2.2.2.1
  have e0 := fun x => (hf x).2.1
  have e1 := fun x => (hf x).2.2.1
  have Hf := Lib.hid hf
  have Hg := Lib.hid hg
  clear hf hg
  repeat (go_big_quiet_step (fail))
  refine wpQuiet_nil ?_
  rintro _ ⟨z, rfl⟩
  have hz := Hf.out z
  clear c0 c1 c2 c3 c4 d0 d1 e0 e1 Hf Hg
  generalize f z = wz at hz ⊢
  clear z f hX
  go_wp2
  go_ret
  exact ⟨rfl, hz.1.2.2.2.2.2.2.2.2⟩

set_option maxRecDepth 100000 in
set_option maxHeartbeats 4000000 in
theorem none_in (conv soft seq size opn zone off n zn on : Int) (w : World)
    (HB : ∀ w, Calls Try.prog 9 #[.agg #[.int .i64 conv, .int .i64 soft, .int .i64 seq, .int .i64 size, .int .i64 opn]] w fun e w' => e = .returned (.bool true) ∧ Below w.heap.size w w')
    (HN : ∀ w, Calls Try.prog 20 #[.agg #[.int .i64 conv, .int .i64 soft, .int .i64 seq, .int .i64 size, .int .i64 opn], .agg #[.int .i64 zone, .int .i64 off]] w fun e w' => e = .returned (.int .i64 0) ∧ Below w.heap.size w w')
    (HAt : ∀ w, Calls Try.prog 18 #[.agg #[.int .i64 conv, .int .i64 soft, .int .i64 seq, .int .i64 size, .int .i64 opn], .int .i64 0] w fun e w' => e = .returned (.tuple #[.agg #[.int .i64 0, .int .i64 0], .bool false]) ∧ Below w.heap.size w w')
    (HX : ∀ w, Calls Try.prog 18 #[.agg #[.int .i64 conv, .int .i64 soft, .int .i64 seq, .int .i64 size, .int .i64 opn], .int .i64 n] w fun e w' => e = .returned (.tuple #[.agg #[.int .i64 zn, .int .i64 on], .bool true]) ∧ Below w.heap.size w w')
    (HM : ∀ w, Calls Try.prog 20 #[.agg #[.int .i64 conv, .int .i64 soft, .int .i64 seq, .int .i64 size, .int .i64 opn], .agg #[.int .i64 zn, .int .i64 on]] w fun e w' => e = .returned (.int .i64 n) ∧ Below w.heap.size w w')
    (HZ : ∀ w, Calls Try.prog 16 #[.agg #[.int .i64 conv, .int .i64 soft, .int .i64 seq, .int .i64 size, .int .i64 opn], .int .i64 zn] w fun e w' => e = .returned (.int .i64 size) ∧ Below w.heap.size w w')
    (hz1 : conv ≤ zn) (hz2 : on < size) :
    Calls Try.prog 5 #[.agg #[.int .i64 conv, .int .i64 soft, .int .i64 seq, .int .i64 size, .int .i64 opn], .agg #[.int .i64 zone, .int .i64 off], .int .i64 n] w fun e w' => e = .returned (.bool true) ∧ Below w.heap.size w w' := by
  have H0 := Lib.hid (Two.new w conv soft seq size opn zone off 23 30)
  replace HB := Lib.hid HB
  replace HN := Lib.hid HN
  replace HAt := Lib.hid HAt
  replace HX := Lib.hid HX
  replace HM := Lib.hid HM
  replace HZ := Lib.hid HZ
  go_enter Try.func5, Try.ntmps5
  go_wp2_with fail
  generalize World.alloc _ _ = w0 at H0 ⊢
  refine (awake3_any _).mono ?_
  rintro e w1 ⟨rfl, hb⟩
  have h1 := Two.below H0.out hb
  clear H0 hb
  obtain ⟨c0, c1, c2, c3, c4, d0, d1, hlt, hbl⟩ := id h1
  go_wp2_with fail
  refine (HB.out _).mono ?_
  rintro e w2 ⟨rfl, hb⟩
  have h2 := Two.below h1 hb
  clear c0 c1 c2 c3 c4 d0 d1 hlt hbl h1 hb
  obtain ⟨c0, c1, c2, c3, c4, d0, d1, hlt, hbl⟩ := id h2
  go_wp2_with fail
  refine (HN.out _).mono ?_
  rintro e w3 ⟨rfl, hb⟩
  have h3 := Two.below h2 hb
  clear c0 c1 c2 c3 c4 d0 d1 hlt hbl h2 hb
  obtain ⟨c0, c1, c2, c3, c4, d0, d1, hlt, hbl⟩ := id h3
  go_wp2_with fail
  refine (HAt.out _).mono ?_
  rintro e w4 ⟨rfl, hb⟩
  have h4 := Two.below h3 hb
  clear c0 c1 c2 c3 c4 d0 d1 hlt hbl h3 hb
  have hx := LiesAt.new w4 0 0 30 (0, 0)
  have h5 := Two.below h4 ((Below.refl _ _).alloc (Nat.le_refl _) (.cells #[.int .i64 0, .int .i64 0] 30))
  obtain ⟨c0, c1, c2, c3, c4, d0, d1, hlt, hbl⟩ := id h4
  clear h4
  go_upto_region 5 with (fail)
  clear c0 c1 c2 c3 c4 d0 d1 hlt hbl
  generalize World.alloc _ _ = w5 at hx h5 ⊢
  generalize w4.heap.size = bx at hx ⊢
  obtain ⟨c0, c1, c2, c3, c4, d0, d1, hlt, hbl⟩ := id h5
  obtain ⟨e0, e1, hlx⟩ := id hx
  go_wp2_with fail
  clear c0 c1 c2 c3 c4 d0 d1 hlt hbl e0 e1 hlx hx
  refine (HX.out _).mono ?_
  rintro e w6 ⟨rfl, hb⟩
  have h6 := Two.below h5 hb
  clear h5 hb
  have h7 := Two.below h6 ((Below.refl _ _).alloc (Nat.le_refl _) (.cells #[.int .i64 zn, .int .i64 on] 30))
  have hy := LiesAt.new w6 zn on 30 (0, 0)
  obtain ⟨c0, c1, c2, c3, c4, d0, d1, hlt, hbl⟩ := id h6
  clear h6
  go_wp2_with fail
  clear c0 c1 c2 c3 c4 d0 d1 hlt hbl
  generalize World.alloc _ _ = w7 at hy h7 ⊢
  generalize w6.heap.size = bx at hy ⊢
  have hS := Lib.hid (show Two w w7.drew conv soft seq size opn zone off ∧ LiesAt w7.drew bx zn on from ⟨h7.drew, hy⟩)
  clear h7 hy
  refine wp_region_class (fun w' => Two w w' conv soft seq size opn zone off ∧ LiesAt w' bx zn on) (by kernel_rfl) (by kernel_rfl) hS.out ?_
  intro X hX f hf hg
  have c0 := fun x => (hf x).1.1
  have c1 := fun x => (hf x).1.2.1
  have c2 := fun x => (hf x).1.2.2.1
  have c3 := fun x => (hf x).1.2.2.2.1
  have c4 := fun x => (hf x).1.2.2.2.2.1
  have d0 := fun x => (hf x).1.2.2.2.2.2.1
  have d1 := fun x => (hf x).1.2.2.2.2.2.2.1
  have e0 := fun x => (hf x).2.1
  have e1 := fun x => (hf x).2.2.1
  have Hf := Lib.hid hf
  have Hg := Lib.hid hg
  clear hf hg
  repeat (go_big_quiet_step (first | (go_at_call 20; exact calls_class (HM.out _) (fun _ hb => Hg.out _ (⟨(Hf.out _).1.below hb, (Hf.out _).2.below hb⟩))) | (go_at_call 16; exact calls_class (HZ.out _) (fun _ hb => Hg.out _ (⟨(Hf.out _).1.below hb, (Hf.out _).2.below hb⟩)))))
  refine wpQuiet_nil ?_
  rintro _ ⟨z, rfl⟩
  have hz := Hf.out z
  clear c0 c1 c2 c3 c4 d0 d1 e0 e1 Hf Hg
  generalize f z = wz at hz ⊢
  clear z f hX
  go_wp2
  go_ret
  exact ⟨rfl, hz.1.2.2.2.2.2.2.2.2⟩

set_option maxRecDepth 100000 in
set_option maxHeartbeats 4000000 in
theorem none_out (conv soft seq size opn zone off n zn on : Int) (w : World)
    (HB : ∀ w, Calls Try.prog 9 #[.agg #[.int .i64 conv, .int .i64 soft, .int .i64 seq, .int .i64 size, .int .i64 opn]] w fun e w' => e = .returned (.bool true) ∧ Below w.heap.size w w')
    (HN : ∀ w, Calls Try.prog 20 #[.agg #[.int .i64 conv, .int .i64 soft, .int .i64 seq, .int .i64 size, .int .i64 opn], .agg #[.int .i64 zone, .int .i64 off]] w fun e w' => e = .returned (.int .i64 0) ∧ Below w.heap.size w w')
    (HAt : ∀ w, Calls Try.prog 18 #[.agg #[.int .i64 conv, .int .i64 soft, .int .i64 seq, .int .i64 size, .int .i64 opn], .int .i64 0] w fun e w' => e = .returned (.tuple #[.agg #[.int .i64 0, .int .i64 0], .bool false]) ∧ Below w.heap.size w w')
    (HX : ∀ w, Calls Try.prog 18 #[.agg #[.int .i64 conv, .int .i64 soft, .int .i64 seq, .int .i64 size, .int .i64 opn], .int .i64 n] w fun e w' => e = .returned (.tuple #[.agg #[.int .i64 zn, .int .i64 on], .bool false]) ∧ Below w.heap.size w w') :
    Calls Try.prog 5 #[.agg #[.int .i64 conv, .int .i64 soft, .int .i64 seq, .int .i64 size, .int .i64 opn], .agg #[.int .i64 zone, .int .i64 off], .int .i64 n] w fun e w' => e = .returned (.bool true) ∧ Below w.heap.size w w' := by
  have H0 := Lib.hid (Two.new w conv soft seq size opn zone off 23 30)
  replace HB := Lib.hid HB
  replace HN := Lib.hid HN
  replace HAt := Lib.hid HAt
  replace HX := Lib.hid HX
  go_enter Try.func5, Try.ntmps5
  go_wp2_with fail
  generalize World.alloc _ _ = w0 at H0 ⊢
  refine (awake3_any _).mono ?_
  rintro e w1 ⟨rfl, hb⟩
  have h1 := Two.below H0.out hb
  clear H0 hb
  obtain ⟨c0, c1, c2, c3, c4, d0, d1, hlt, hbl⟩ := id h1
  go_wp2_with fail
  refine (HB.out _).mono ?_
  rintro e w2 ⟨rfl, hb⟩
  have h2 := Two.below h1 hb
  clear c0 c1 c2 c3 c4 d0 d1 hlt hbl h1 hb
  obtain ⟨c0, c1, c2, c3, c4, d0, d1, hlt, hbl⟩ := id h2
  go_wp2_with fail
  refine (HN.out _).mono ?_
  rintro e w3 ⟨rfl, hb⟩
  have h3 := Two.below h2 hb
  clear c0 c1 c2 c3 c4 d0 d1 hlt hbl h2 hb
  obtain ⟨c0, c1, c2, c3, c4, d0, d1, hlt, hbl⟩ := id h3
  go_wp2_with fail
  refine (HAt.out _).mono ?_
  rintro e w4 ⟨rfl, hb⟩
  have h4 := Two.below h3 hb
  clear c0 c1 c2 c3 c4 d0 d1 hlt hbl h3 hb
  have hx := LiesAt.new w4 0 0 30 (0, 0)
  have h5 := Two.below h4 ((Below.refl _ _).alloc (Nat.le_refl _) (.cells #[.int .i64 0, .int .i64 0] 30))
  obtain ⟨c0, c1, c2, c3, c4, d0, d1, hlt, hbl⟩ := id h4
  clear h4
  go_upto_region 5 with (fail)
  clear c0 c1 c2 c3 c4 d0 d1 hlt hbl
  generalize World.alloc _ _ = w5 at hx h5 ⊢
  generalize w4.heap.size = bx at hx ⊢
  obtain ⟨c0, c1, c2, c3, c4, d0, d1, hlt, hbl⟩ := id h5
  obtain ⟨e0, e1, hlx⟩ := id hx
  go_wp2_with fail
  clear c0 c1 c2 c3 c4 d0 d1 hlt hbl e0 e1 hlx hx
  refine (HX.out _).mono ?_
  rintro e w6 ⟨rfl, hb⟩
  have h6 := Two.below h5 hb
  clear h5 hb
  have h7 := Two.below h6 ((Below.refl _ _).alloc (Nat.le_refl _) (.cells #[.int .i64 zn, .int .i64 on] 30))
  have hy := LiesAt.new w6 zn on 30 (0, 0)
  obtain ⟨c0, c1, c2, c3, c4, d0, d1, hlt, hbl⟩ := id h6
  clear h6
  go_wp2_with fail
  clear c0 c1 c2 c3 c4 d0 d1 hlt hbl
  generalize World.alloc _ _ = w7 at hy h7 ⊢
  generalize w6.heap.size = bx at hy ⊢
  have hS := Lib.hid (show Two w w7.drew conv soft seq size opn zone off ∧ LiesAt w7.drew bx zn on from ⟨h7.drew, hy⟩)
  clear h7 hy
  refine wp_region_class (fun w' => Two w w' conv soft seq size opn zone off ∧ LiesAt w' bx zn on) (by kernel_rfl) (by kernel_rfl) hS.out ?_
  intro X hX f hf hg
  have c0 := fun x => (hf x).1.1
  have c1 := fun x => (hf x).1.2.1
  have c2 := fun x => (hf x).1.2.2.1
  have c3 := fun x => (hf x).1.2.2.2.1
  have c4 := fun x => (hf x).1.2.2.2.2.1
  have d0 := fun x => (hf x).1.2.2.2.2.2.1
  have d1 := fun x => (hf x).1.2.2.2.2.2.2.1
  have e0 := fun x => (hf x).2.1
  have e1 := fun x => (hf x).2.2.1
  have Hf := Lib.hid hf
  have Hg := Lib.hid hg
  clear hf hg
  repeat (go_big_quiet_step (fail))
  refine wpQuiet_nil ?_
  rintro _ ⟨z, rfl⟩
  have hz := Hf.out z
  clear c0 c1 c2 c3 c4 d0 d1 e0 e1 Hf Hg
  generalize f z = wz at hz ⊢
  clear z f hX
  go_wp2
  go_ret
  exact ⟨rfl, hz.1.2.2.2.2.2.2.2.2⟩



set_option maxRecDepth 100000 in
set_option maxHeartbeats 1000000 in
theorem law_back (conv soft seq size opn zone off n : Int) (w : World) (hn : -9223372036854775808 ≤ n ∧ n < 9223372036854775808) :
    Calls Try.prog 5 #[.agg #[.int .i64 conv, .int .i64 soft, .int .i64 seq, .int .i64 size, .int .i64 opn], .agg #[.int .i64 zone, .int .i64 off], .int .i64 n] w fun e w' => e = .returned (.bool true) ∧ Below w.heap.size w w' := by
  have H0 := Lib.hid (Two.new w conv soft seq size opn zone off 23 30)
  have HB := Lib.hid fun w => rright_any conv soft seq size opn w
  by_cases hok : Ok conv soft seq size opn
  · have H := hok.some
    have hsz : 0 < size := by have := hok.2.2.2.1; omega
    rw [ok_yes hok] at HB
    have hx := fun w => at_any conv soft seq size opn n w H
    have hm0 := fun w => num_any conv soft seq size opn zone off w H
    by_cases hin : 1 ≤ n ∧ n ≤ seq * size
    · rw [show isB seq size n = true from decide_eq_true hin, show zoneOf conv seq size n = conv + (n - 1) / size from if_pos hin, show offOf seq size n = (n - 1) % size from if_pos hin] at hx
      have hst := seat_of (conv := conv) hsz hin
      have hnm := fun w => num_any conv soft seq size opn (conv + (n - 1) / size) ((n - 1) % size) w H
      rw [num_of hsz hin] at hnm
      have hzz := fun w => sectors_any conv soft seq size opn (conv + (n - 1) / size) w H
      rw [show sectors conv soft seq size (conv + (n - 1) / size) = size from (if_neg (by have := hok.1; have := hst.1; have := hst.2.1; omega)).trans (if_neg (by have := hst.1; omega))] at hzz
      by_cases hseat : Seat conv seq size zone off
      · have hb := num_bd hseat
        have hat := fun w => at_any conv soft seq size opn ((zone - conv) * size + off + 1) w H
        rw [show isB seq size ((zone - conv) * size + off + 1) = true from decide_eq_true hb, show zoneOf conv seq size ((zone - conv) * size + off + 1) = zone from (if_pos hb).trans (of_num hseat).1, show offOf seq size ((zone - conv) * size + off + 1) = off from (if_pos hb).trans (of_num hseat).2] at hat
        rw [show num conv seq size zone off = (zone - conv) * size + off + 1 from if_pos hseat] at hm0
        exact seat_in conv soft seq size opn zone off n _ _ _ w (by omega) HB.out hm0 hat hx hnm hzz hst.1 hst.2.2.2
      · have hat := fun w => at_any conv soft seq size opn 0 w H
        rw [show isB seq size 0 = false from decide_eq_false (by omega), show zoneOf conv seq size 0 = 0 from if_neg (by omega), show offOf seq size 0 = 0 from if_neg (by omega)] at hat
        rw [show num conv seq size zone off = 0 from if_neg hseat] at hm0
        exact none_in conv soft seq size opn zone off n _ _ w HB.out hm0 hat hx hnm hzz hst.1 hst.2.2.2
    · rw [show isB seq size n = false from decide_eq_false hin] at hx
      by_cases hseat : Seat conv seq size zone off
      · have hb := num_bd hseat
        have hat := fun w => at_any conv soft seq size opn ((zone - conv) * size + off + 1) w H
        rw [show isB seq size ((zone - conv) * size + off + 1) = true from decide_eq_true hb, show zoneOf conv seq size ((zone - conv) * size + off + 1) = zone from (if_pos hb).trans (of_num hseat).1, show offOf seq size ((zone - conv) * size + off + 1) = off from (if_pos hb).trans (of_num hseat).2] at hat
        rw [show num conv seq size zone off = (zone - conv) * size + off + 1 from if_pos hseat] at hm0
        exact seat_out conv soft seq size opn zone off n _ _ _ w (by omega) HB.out hm0 hat hx
      · have hat := fun w => at_any conv soft seq size opn 0 w H
        rw [show isB seq size 0 = false from decide_eq_false (by omega), show zoneOf conv seq size 0 = 0 from if_neg (by omega), show offOf seq size 0 = 0 from if_neg (by omega)] at hat
        rw [show num conv seq size zone off = 0 from if_neg hseat] at hm0
        exact none_out conv soft seq size opn zone off n _ _ w HB.out hm0 hat hx
  · rw [ok_no hok] at HB
    clear hok
    go_enter Try.func5, Try.ntmps5
    go_wp2_with fail
    generalize World.alloc _ _ = w0 at H0 ⊢
    refine (awake3_any _).mono ?_
    rintro e w1 ⟨rfl, hb⟩
    have h1 := Two.below H0.out hb
    clear H0 hb
    obtain ⟨c0, c1, c2, c3, c4, d0, d1, hlt, hbl⟩ := id h1
    go_wp2_with fail
    refine (HB.out _).mono ?_
    rintro e w2 ⟨rfl, hb⟩
    have h2 := Two.below h1 hb
    clear c0 c1 c2 c3 c4 d0 d1 hlt hbl h1 hb
    obtain ⟨c0, c1, c2, c3, c4, d0, d1, hlt, hbl⟩ := id h2
    go_wp2_with fail
    clear c0 c1 c2 c3 c4 d0 d1 hlt hbl
    refine (awake3_any _).mono ?_
    rintro e w3 ⟨rfl, hb⟩
    have h3 := Two.below h2 hb
    go_wp2
    go_ret
    exact ⟨rfl, h3.2.2.2.2.2.2.2.2⟩
end Go.Proofs.Ytcpnbdncdkcklaa

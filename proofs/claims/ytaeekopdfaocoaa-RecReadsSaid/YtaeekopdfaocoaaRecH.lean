/-
  The walks of the laws RecUnlike, RecOnly.
-/
import Derived.Test.YtaeekopdfaocoaaRecG
namespace Go.Proofs.Ytaeekopdfaocoaa
open Go.RowKit Word Crc Rec
set_option linter.unusedVariables false

/-- two records in variables of their own -/
def TwoSt (w W : World) (a b : Rc) : Prop := Box W w.heap.size 25 (rcs a) ∧ Box W (w.heap.size + 1) 25 (rcs b) ∧ Below w.heap.size w W
theorem TwoSt.on {w W W' : World} {a b : Rc} (h : TwoSt w W a b) (hb : Below W.heap.size W W') : TwoSt w W' a b := ⟨h.1.on hb, h.2.1.on hb, bthen h.2.2 hb⟩
theorem TwoSt.drew {w W : World} {a b : Rc} (h : TwoSt w W a b) : TwoSt w W.drew a b := ⟨h.1, h.2.1, h.2.2.drew⟩
theorem TwoSt.start {w w1 w2 : World} {a b : Rc} (x0 : Box w1 w.heap.size 25 (rcs a)) (hB1 : Below w.heap.size w w1) (hs1 : w1.heap.size = w.heap.size + 1) (x1 : Box w2 w1.heap.size 25 (rcs b)) (hB2 : Below w1.heap.size w1 w2) : TwoSt w w2 a b := by
  rw [hs1] at x1
  exact ⟨x0.below hB2 (by omega), x1, bthen hB1 hB2⟩

set_option maxRecDepth 100000 in
set_option maxHeartbeats 4000000 in
theorem law_unlike (a b : Rc) (w : World) (ha : In a) (hb : In b) :
    Calls Try.prog 6 #[.agg (rcs a).toArray, .agg (rcs b).toArray] w fun e w' => e = .returned (.bool true) ∧ Below w.heap.size w w' := by
  obtain ⟨mr, hmr, hszr⟩ := big_size (P := Try.prog) (t := 25) (s := 37) (by kernel_rfl)
  have hmr0 : ¬ mr = 0 := by omega
  have HI := Lib.hid (And.intro ha hb)
  have HM := Lib.hid hmr
  have QA := Lib.hid fun w' => recright_any a w' ha
  have QB := Lib.hid fun w' => recright_any b w' hb
  clear ha hb hmr
  have ldA := fun (W : World) (L : TwoSt w W a b) => big_load0 Try.prog w.heap.size 0 (rcs a) mr (by rw [rcs_length HI.out.1.1, HM.out]) W L.1.range0
  have ldB := fun (W : World) (L : TwoSt w W a b) => big_load0 Try.prog (w.heap.size + 1) 0 (rcs b) mr (by rw [rcs_length HI.out.2.1, HM.out]) W L.2.1.range0
  have LA := Lib.hid ldA
  have LB := Lib.hid ldB
  clear ldA ldB
  go_enter Try.func6, Try.ntmps6
  go_wp2_with (first
    | ((with_reducible refine wpList_rc_box (o := ⟨some 2, .box _ _, _, _, _, _⟩) rfl _ rfl a rfl ?_); intro w1 x0 hB1 hs1)
    | ((with_reducible refine wpList_rc_box (o := ⟨some 3, .box _ _, _, _, _, _⟩) rfl _ rfl b rfl ?_); intro w2 x1 hB2 hs2; have L := TwoSt.start x0 hB1 hs1 x1 hB2; rw [hs1]; clear hs1 hs2 x0 x1 hB1 hB2)
    | fail)
  refine (awake6_any _).mono ?_
  rintro e w3 ⟨rfl, hb3⟩
  replace L := L.on hb3
  clear hb3
  have la := LA.out _ L
  cases hka : okB a with
  | false =>
    rw [hka] at QA
    clear hka
    have HL := Lib.hid L
    clear L
    go_wp2_with fail
    refine (QA.out _).mono ?_
    rintro e w4 ⟨rfl, hb4⟩
    replace HL := Lib.hid (HL.out.on hb4)
    clear hb4
    go_wp2_with fail
    refine (awake6_any _).mono ?_
    rintro e w5 ⟨rfl, hb5⟩
    replace HL := Lib.hid (HL.out.on hb5)
    clear hb5
    go_wp2
    go_ret
    exact ⟨rfl, HL.out.2.2⟩
  | true =>
    rw [hka] at QA
    have HL := Lib.hid L
    clear L
    go_wp2_with fail
    refine (QA.out _).mono ?_
    rintro e w4 ⟨rfl, hb4⟩
    replace HL := Lib.hid (HL.out.on hb4)
    clear hb4 la
    have lb := LB.out _ HL.out
    cases hkb : okB b with
    | false =>
      rw [hkb] at QB
      clear hkb
      go_wp2_with fail
      refine (QB.out _).mono ?_
      rintro e w5 ⟨rfl, hb5⟩
      replace HL := Lib.hid (HL.out.on hb5)
      clear hb5
      go_wp2_with fail
      refine (awake6_any _).mono ?_
      rintro e w6 ⟨rfl, hb6⟩
      replace HL := Lib.hid (HL.out.on hb6)
      clear hb6
      go_wp2
      go_ret
      exact ⟨rfl, HL.out.2.2⟩
    | true =>
      rw [hkb] at QB
      go_wp2_with fail
      refine (QB.out _).mono ?_
      rintro e w5 ⟨rfl, hb5⟩
      replace HL := Lib.hid (HL.out.on hb5)
      clear hb5 lb
      have YA := Lib.hid fun w' => lay_any a w' (of_decide_eq_true hka) HI.out.1
      have YB := Lib.hid fun w' => lay_any b w' (of_decide_eq_true hkb) HI.out.2
      have hq := fun w' => pg_equal w' (layL a) (layL b) (layL_length a HI.out.1.1) (layL_length b HI.out.2.1)
      have hr := fun w' => equal_rec w' a b HI.out.1 HI.out.2
      have hg1 := pg_guard
      have hg2 := guard_rec
      have HE := Lib.hid (show ((layL a == layL b) == rcEq a b) = true by
        rw [beq_iff_eq, Bool.eq_iff_iff, beq_iff_eq, rcEq_iff]
        exact ⟨fun h => lay_inj (of_decide_eq_true hka) (of_decide_eq_true hkb) HI.out.1 HI.out.2 h, fun h => by rw [h]⟩)
      clear hka hkb QA QB
      go_wp2_with fail
      refine wp_region_class (fun w' => TwoSt w w' a b) (by kernel_rfl) (by kernel_rfl) HL.out.drew ?_
      intro X hX f hf hg
      have ca := fun x => LA.out _ (hf x)
      have cb := fun x => LB.out _ (hf x)
      have Hf := Lib.hid hf
      have Hg := Lib.hid hg
      clear hf hg HL LA LB
      generalize bs (layL a) = PA at *
      generalize bs (layL b) = PB at *
      generalize (layL a == layL b) = ea at *
      generalize rcEq a b = eb at *
      generalize hra : rcs a = ra at *
      generalize hrb : rcs b = rb at *
      have HR := Lib.hid (And.intro hra hrb)
      clear hra hrb
      repeat (go_big_quiet_step ((go_at_call 11; (first | with_reducible exact calls_class (YA.out _) (fun _ hb => Hg.out _ ((Hf.out _).on hb)) | with_reducible exact calls_class (YB.out _) (fun _ hb => Hg.out _ ((Hf.out _).on hb))))))
      refine wpQuiet_nil ?_
      rintro _ ⟨x, rfl⟩
      have HL := Lib.hid (Hf.out x).2.2
      clear ca cb Hf Hg hq hr
      generalize f x = W at HL ⊢
      go_wp2
      go_ret
      exact ⟨ret_bool HE.out.symm, HL.out⟩

/-- a page in a variable of its own -/
def OneSt (w W : World) (p : List Int) : Prop := Box W w.heap.size 29 (bs p) ∧ Below w.heap.size w W
theorem OneSt.on {w W W' : World} {p : List Int} (h : OneSt w W p) (hb : Below W.heap.size W W') : OneSt w W' p := ⟨h.1.on hb, bthen h.2 hb⟩
theorem OneSt.drew {w W : World} {p : List Int} (h : OneSt w W p) : OneSt w W.drew p := ⟨h.1, h.2.drew⟩
theorem OneSt.store {w W W' : World} {p p' : List Int} (h : OneSt w W p) (hb : Box W' w.heap.size 29 (bs p')) (hg : W.grownBy W' (some w.heap.size)) : OneSt w W' p' := ⟨hb, below_stored h.2 hg h.2.size (Nat.le_refl _)⟩
/-- the page, and a record beside it -/
def OneSt2 (w W : World) (p : List Int) (b : Nat) (r : Rc) : Prop := OneSt w W p ∧ Box W b 25 (rcs r)
theorem OneSt2.on {w W W' : World} {p : List Int} {b : Nat} {r : Rc} (h : OneSt2 w W p b r) (hb : Below W.heap.size W W') : OneSt2 w W' p b r := ⟨h.1.on hb, h.2.on hb⟩
theorem OneSt2.drew {w W : World} {p : List Int} {b : Nat} {r : Rc} (h : OneSt2 w W p b r) : OneSt2 w W.drew p b r := ⟨h.1.drew, h.2⟩
theorem read_ok {p : List Int} (h : (readS p).2 = 0) : Ok (readS p).1 ∧ layL (readS p).1 = p := by
  unfold readS at h ⊢
  split at h
  · exact absurd h (by decide)
  · rename_i h1
    rw [if_neg h1]
    split at h
    · rename_i h2
      rw [if_pos h2]
      exact ⟨of_decide_eq_true h2.1, h2.2⟩
    · exact absurd h (by decide)
theorem read_err (p : List Int) : (readS p).2 = 0 ∨ (readS p).2 = 7 ∨ (readS p).2 = 8 := by
  unfold readS
  split
  · exact .inr (.inr rfl)
  · split
    · exact .inl rfl
    · exact .inr (.inl rfl)
def ifSealed (p : List Int) (b : Bool) : List Int := if b then sealedP p else p
theorem ifSealed_in {p : List Int} (hl : p.length = 64) (hp : octets p) (b : Bool) : (ifSealed p b).length = 64 ∧ octets (ifSealed p b) := by
  cases b
  · exact ⟨hl, hp⟩
  · exact ⟨sealedP_length hl, sealedP_octets hp⟩

set_option maxRecDepth 100000 in
set_option maxHeartbeats 4000000 in
theorem law_only (p : List Int) (b : Bool) (w : World) (hl : p.length = 64) (hp : octets p) :
    Calls Try.prog 7 #[.agg (bs p).toArray, .bool b] w fun e w' => e = .returned (.bool true) ∧ Below w.heap.size w w' := by
  obtain ⟨m, hm, hsz⟩ := big_size (P := Try.prog) (t := 29) (s := 64) (by kernel_rfl)
  obtain ⟨mr, hmr, hszr⟩ := big_size (P := Try.prog) (t := 25) (s := 37) (by kernel_rfl)
  have hm0 : ¬ m = 0 := by omega
  have hmr0 : ¬ mr = 0 := by omega
  have HP := Lib.hid (And.intro hl hp)
  have HM := Lib.hid (And.intro hm hmr)
  have LP := Lib.hid fun (W : World) (q : List Int) (hq : q.length = 64) (L : OneSt w W q) => big_load0 Try.prog w.heap.size 0 (bs q) m (by rw [bs_length, hq, HM.out.1]) W L.1.range0
  clear hm hmr hl hp
  go_enter Try.func7, Try.ntmps7
  go_wp2_with (first
    | ((with_reducible refine wpList_pg_box (o := ⟨some 2, .box _ _, _, _, _, _⟩) rfl _ rfl p rfl ?_); intro w1 x0 hB1 hs1)
    | fail)
  have HL := Lib.hid (show OneSt w w1 p from ⟨x0, hB1⟩)
  clear x0 hB1 hs1
  refine (awake6_any _).mono ?_
  rintro e w2 ⟨rfl, hb2⟩
  replace HL := Lib.hid (HL.out.on hb2)
  clear hb2
  cases b with
  | true =>
    have hld := LP.out _ _ HP.out.1 HL.out
    have HQ := Lib.hid (And.intro (sealedP_length HP.out.1) (sealedP_octets HP.out.2))
    go_wp2_with fail
    refine (lawsealed_any p _ HP.out.1 HP.out.2).mono ?_
    rintro e w3 ⟨rfl, hb3⟩
    replace HL := Lib.hid (HL.out.on hb3)
    have HX := Lib.hid HL.out.1
    clear hb3 hld
    generalize sealedP p = sp at HQ ⊢
    go_wp2_with (first
      | ((with_reducible refine wpList_pg_store (o := ⟨none, .store _ _ _, _, _, _, _⟩) rfl _ _ rfl w.heap.size sp p HQ.out.1 HP.out.1 rfl rfl HX.out ?_); intro w4 x4 hg4 _; have HL := Lib.hid (OneSt.store HL.out x4 hg4); clear x4 hg4; have hld := LP.out _ _ HQ.out.1 HL.out)
      | fail)
    refine (read_any _ _ HQ.out.1 HQ.out.2).mono ?_
    rintro e w5 ⟨rfl, hb5⟩
    replace HL := Lib.hid (HL.out.on hb5)
    clear hb5 hld
    have HI := Lib.hid (read_in HQ.out.1 HQ.out.2)
    have HK := Lib.hid fun h => read_ok (p := sp) h
    have HE := Lib.hid (read_err sp)
    generalize readS sp = rs at HI HK HE ⊢
    obtain ⟨r, er⟩ := rs
    simp only at HI HK HE ⊢
    generalize hqq : sp = q at *
    clear hqq
    go_wp2_with (first
      | ((with_reducible refine wpList_rc_alloc (o := ⟨some 5, .alloc _, _, _, _, _⟩) rfl rfl ?_); intro w6 x6 hB6 _)
      | ((with_reducible refine wpList_rc_store (o := ⟨none, .store _ _ _, _, _, _, _⟩) rfl _ _ rfl w5.heap.size r rc0 HI.out rc0_in rfl rfl x6 ?_); intro w7 x7 hg7 _)
      | fail)
    have h57 := below_stored hB6 hg7 hB6.size (Nat.le_refl _)
    have L2 : OneSt2 w w7 q w5.heap.size r := ⟨HL.out.on h57, x7⟩
    clear x6 hB6 x7 hg7 h57 HL
    generalize w5.heap.size = bx at *
    rcases HE.out with rfl | rfl | rfl
    · obtain ⟨hok, hlay⟩ := HK.out rfl
      have QR := Lib.hid fun w' => recright_any r w' HI.out
      have QL := Lib.hid fun w' => lay_any r w' hok HI.out
      rw [show okB r = true from decide_eq_true hok] at QR
      rw [hlay] at QL
      have hq := fun w' => pg_equal w' q q HQ.out.1 HQ.out.1
      rw [beq_self_eq_true] at hq
      have hgd := pg_guard
      clear hok hlay HK HE
      refine wp_region_class (fun w' => OneSt2 w w' q bx r) (by kernel_rfl) (by kernel_rfl) L2.drew ?_
      intro X hX f hf hg
      have cp := fun x => LP.out (f x) q HQ.out.1 (hf x).1
      have cr := fun x => big_load0 Try.prog bx 0 (rcs r) mr (by rw [rcs_length HI.out.1, HM.out.2]) (f x) (hf x).2.range0
      have Hf := Lib.hid hf
      have Hg := Lib.hid hg
      clear hf hg L2 LP
      generalize bs q = Pq at *
      generalize rcs r = Rr at *
      try simp only [Act.put, List.setIfInBounds_toArray, List.set_cons_succ, List.set_cons_zero]
      repeat (go_big_quiet_step (first
        | (go_at_call 9; with_reducible exact calls_class (QR.out _) (fun _ hb => Hg.out _ ((Hf.out _).on hb)))
        | (go_at_call 11; with_reducible exact calls_class (QL.out _) (fun _ hb => Hg.out _ ((Hf.out _).on hb)))))
      refine wpQuiet_nil ?_
      rintro _ ⟨x, rfl⟩
      have HB := Lib.hid (Hf.out x).1.2
      clear cp cr Hf Hg hq
      generalize f x = W at HB ⊢
      go_wp2
      go_ret
      exact ⟨rfl, HB.out⟩
    · refine wp_region_class (fun w' => OneSt2 w w' q bx r) (by kernel_rfl) (by kernel_rfl) L2.drew ?_
      intro X hX f hf hg
      have Hf := Lib.hid hf
      have Hg := Lib.hid hg
      clear hf hg L2 LP HK HE
      generalize bs q = Pq at *
      generalize rcs r = Rr at *
      try simp only [Act.put, List.setIfInBounds_toArray, List.set_cons_succ, List.set_cons_zero]
      repeat (go_big_quiet_step (fail))
      refine wpQuiet_nil ?_
      rintro _ ⟨x, rfl⟩
      have HB := Lib.hid (Hf.out x).1.2
      clear Hf Hg
      generalize f x = W at HB ⊢
      go_wp2
      go_ret
      exact ⟨rfl, HB.out⟩
    · refine wp_region_class (fun w' => OneSt2 w w' q bx r) (by kernel_rfl) (by kernel_rfl) L2.drew ?_
      intro X hX f hf hg
      have Hf := Lib.hid hf
      have Hg := Lib.hid hg
      clear hf hg L2 LP HK HE
      generalize bs q = Pq at *
      generalize rcs r = Rr at *
      try simp only [Act.put, List.setIfInBounds_toArray, List.set_cons_succ, List.set_cons_zero]
      repeat (go_big_quiet_step (fail))
      refine wpQuiet_nil ?_
      rintro _ ⟨x, rfl⟩
      have HB := Lib.hid (Hf.out x).1.2
      clear Hf Hg
      generalize f x = W at HB ⊢
      go_wp2
      go_ret
      exact ⟨rfl, HB.out⟩
  | false =>
    have HQ := HP
    have hld := LP.out _ _ HQ.out.1 HL.out
    go_wp2_with fail
    refine (read_any _ _ HQ.out.1 HQ.out.2).mono ?_
    rintro e w5 ⟨rfl, hb5⟩
    replace HL := Lib.hid (HL.out.on hb5)
    clear hb5 hld
    have HI := Lib.hid (read_in HQ.out.1 HQ.out.2)
    have HK := Lib.hid fun h => read_ok (p := p) h
    have HE := Lib.hid (read_err p)
    generalize readS p = rs at HI HK HE ⊢
    obtain ⟨r, er⟩ := rs
    simp only at HI HK HE ⊢
    generalize hqq : p = q at *
    clear hqq
    go_wp2_with (first
      | ((with_reducible refine wpList_rc_alloc (o := ⟨some 5, .alloc _, _, _, _, _⟩) rfl rfl ?_); intro w6 x6 hB6 _)
      | ((with_reducible refine wpList_rc_store (o := ⟨none, .store _ _ _, _, _, _, _⟩) rfl _ _ rfl w5.heap.size r rc0 HI.out rc0_in rfl rfl x6 ?_); intro w7 x7 hg7 _)
      | fail)
    have h57 := below_stored hB6 hg7 hB6.size (Nat.le_refl _)
    have L2 : OneSt2 w w7 q w5.heap.size r := ⟨HL.out.on h57, x7⟩
    clear x6 hB6 x7 hg7 h57 HL
    generalize w5.heap.size = bx at *
    rcases HE.out with rfl | rfl | rfl
    · obtain ⟨hok, hlay⟩ := HK.out rfl
      have QR := Lib.hid fun w' => recright_any r w' HI.out
      have QL := Lib.hid fun w' => lay_any r w' hok HI.out
      rw [show okB r = true from decide_eq_true hok] at QR
      rw [hlay] at QL
      have hq := fun w' => pg_equal w' q q HQ.out.1 HQ.out.1
      rw [beq_self_eq_true] at hq
      have hgd := pg_guard
      clear hok hlay HK HE
      refine wp_region_class (fun w' => OneSt2 w w' q bx r) (by kernel_rfl) (by kernel_rfl) L2.drew ?_
      intro X hX f hf hg
      have cp := fun x => LP.out (f x) q HQ.out.1 (hf x).1
      have cr := fun x => big_load0 Try.prog bx 0 (rcs r) mr (by rw [rcs_length HI.out.1, HM.out.2]) (f x) (hf x).2.range0
      have Hf := Lib.hid hf
      have Hg := Lib.hid hg
      clear hf hg L2 LP
      generalize bs q = Pq at *
      generalize rcs r = Rr at *
      try simp only [Act.put, List.setIfInBounds_toArray, List.set_cons_succ, List.set_cons_zero]
      repeat (go_big_quiet_step (first
        | (go_at_call 9; with_reducible exact calls_class (QR.out _) (fun _ hb => Hg.out _ ((Hf.out _).on hb)))
        | (go_at_call 11; with_reducible exact calls_class (QL.out _) (fun _ hb => Hg.out _ ((Hf.out _).on hb)))))
      refine wpQuiet_nil ?_
      rintro _ ⟨x, rfl⟩
      have HB := Lib.hid (Hf.out x).1.2
      clear cp cr Hf Hg hq
      generalize f x = W at HB ⊢
      go_wp2
      go_ret
      exact ⟨rfl, HB.out⟩
    · refine wp_region_class (fun w' => OneSt2 w w' q bx r) (by kernel_rfl) (by kernel_rfl) L2.drew ?_
      intro X hX f hf hg
      have Hf := Lib.hid hf
      have Hg := Lib.hid hg
      clear hf hg L2 LP HK HE
      generalize bs q = Pq at *
      generalize rcs r = Rr at *
      try simp only [Act.put, List.setIfInBounds_toArray, List.set_cons_succ, List.set_cons_zero]
      repeat (go_big_quiet_step (fail))
      refine wpQuiet_nil ?_
      rintro _ ⟨x, rfl⟩
      have HB := Lib.hid (Hf.out x).1.2
      clear Hf Hg
      generalize f x = W at HB ⊢
      go_wp2
      go_ret
      exact ⟨rfl, HB.out⟩
    · refine wp_region_class (fun w' => OneSt2 w w' q bx r) (by kernel_rfl) (by kernel_rfl) L2.drew ?_
      intro X hX f hf hg
      have Hf := Lib.hid hf
      have Hg := Lib.hid hg
      clear hf hg L2 LP HK HE
      generalize bs q = Pq at *
      generalize rcs r = Rr at *
      try simp only [Act.put, List.setIfInBounds_toArray, List.set_cons_succ, List.set_cons_zero]
      repeat (go_big_quiet_step (fail))
      refine wpQuiet_nil ?_
      rintro _ ⟨x, rfl⟩
      have HB := Lib.hid (Hf.out x).1.2
      clear Hf Hg
      generalize f x = W at HB ⊢
      go_wp2
      go_ret
      exact ⟨rfl, HB.out⟩
end Go.Proofs.Ytaeekopdfaocoaa

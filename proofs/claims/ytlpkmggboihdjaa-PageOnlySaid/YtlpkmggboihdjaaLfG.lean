/-
  The walks of the laws PageBack, PageAlone, PageOnly.
-/
import Derived.Test.YtlpkmggboihdjaaLfF
namespace Go.Proofs.Ytlpkmggboihdjaa
open Go.RowKit Word Crc Leaf
set_option linter.unusedVariables false

/-- two arguments in variables of their own -/
def TwoBx (w W : World) (T : TypeId) (cs : List Value) (U : TypeId) (ds : List Value) : Prop := Box W w.heap.size T cs ∧ Box W (w.heap.size + 1) U ds ∧ Below w.heap.size w W ∧ w.heap.size + 2 ≤ W.heap.size
section
variable {w W W' : World} {T U : TypeId} {cs ds : List Value}
theorem TwoBx.on (h : TwoBx w W T cs U ds) (hb : Below W.heap.size W W') : TwoBx w W' T cs U ds := ⟨h.1.on hb, h.2.1.on hb, bthen h.2.2.1 hb, Nat.le_trans h.2.2.2 hb.size⟩
theorem TwoBx.drew (h : TwoBx w W T cs U ds) : TwoBx w W.drew T cs U ds := ⟨h.1, h.2.1, h.2.2.1.drew, h.2.2.2⟩
theorem TwoBx.start {w w1 w2 : World} (x0 : Box w1 w.heap.size T cs) (hB1 : Below w.heap.size w w1) (hs1 : w1.heap.size = w.heap.size + 1) (x1 : Box w2 w1.heap.size U ds) (hB2 : Below w1.heap.size w1 w2) (hs2 : w2.heap.size = w1.heap.size + 1) : TwoBx w w2 T cs U ds := by
  rw [hs1] at x1
  exact ⟨x0.below hB2 (by omega), x1, bthen hB1 hB2, by omega⟩
end
/-- a third variable beside them -/
def ThreeBx (w W : World) (T : TypeId) (cs : List Value) (U : TypeId) (ds : List Value) (b : Nat) (V : TypeId) (es : List Value) : Prop := TwoBx w W T cs U ds ∧ Box W b V es ∧ w.heap.size + 2 ≤ b
section
variable {w W W' : World} {T U V : TypeId} {cs ds es : List Value} {b : Nat}
theorem ThreeBx.on (h : ThreeBx w W T cs U ds b V es) (hb : Below W.heap.size W W') : ThreeBx w W' T cs U ds b V es := ⟨h.1.on hb, h.2.1.on hb, h.2.2⟩
theorem ThreeBx.drew (h : ThreeBx w W T cs U ds b V es) : ThreeBx w W.drew T cs U ds b V es := ⟨h.1.drew, h.2⟩
theorem ThreeBx.made (h : TwoBx w W T cs U ds) (hB : Below W.heap.size W W') (hx : Box W' W.heap.size V es) : ThreeBx w W' T cs U ds W.heap.size V es := ⟨h.on hB, hx, h.2.2.2⟩
end

set_option maxRecDepth 100000 in
set_option maxHeartbeats 4000000 in
theorem lflaw_back (a b : Lf) (w : World) (ha : In a) (hb : In b) :
    Calls Try.prog 5 #[.agg (lcs a).toArray, .agg (lcs b).toArray] w fun e w' => e = .returned (.bool true) ∧ Below w.heap.size w w' := by
  obtain ⟨mr, hmr, hszr⟩ := big_size (P := Try.prog) (t := 24) (s := 12) (by kernel_rfl)
  have hmr0 : ¬ mr = 0 := by omega
  have HI := Lib.hid (And.intro ha hb)
  have HM := Lib.hid hmr
  have QA := Lib.hid fun w' => lfright_any a w' ha
  have QB := Lib.hid fun w' => lfright_any b w' hb
  clear ha hb hmr
  have LD := Lib.hid fun (W : World) (g : Nat) (c : Lf) (hc : In c) (h : Box W g 24 (lcs c)) => big_load0 Try.prog g 0 (lcs c) mr (by rw [lcs_length hc, HM.out]) W h.range0
  go_enter Try.func5, Try.ntmps5
  go_wp2_with (first
    | ((with_reducible refine wpList_lf_box (o := ⟨some 2, .box _ _, _, _, _, _⟩) rfl _ rfl a rfl ?_); intro w1 x0 hB1 hs1)
    | ((with_reducible refine wpList_lf_box (o := ⟨some 3, .box _ _, _, _, _, _⟩) rfl _ rfl b rfl ?_); intro w2 x1 hB2 hs2; have L := TwoBx.start x0 hB1 hs1 x1 hB2 hs2; rw [hs1]; clear hs1 hs2 x0 x1 hB1 hB2)
    | fail)
  refine (awake7_any _).mono ?_
  rintro e w3 ⟨rfl, hb3⟩
  replace L := L.on hb3
  clear hb3
  have la := LD.out _ _ a HI.out.1 L.1
  cases hka : okB a with
  | false =>
    rw [hka] at QA
    clear hka
    have HL := Lib.hid L
    clear L
    go_wp2_with fail
    refine (QA.out _).mono ?_
    rintro e w4 ⟨rfl, hb4⟩
    replace HL := Lib.hid (HL.out.on hb4)
    clear hb4
    go_wp2_with fail
    refine (awake7_any _).mono ?_
    rintro e w5 ⟨rfl, hb5⟩
    replace HL := Lib.hid (HL.out.on hb5)
    clear hb5
    go_wp2
    go_ret
    exact ⟨rfl, HL.out.2.2.1⟩
  | true =>
    rw [hka] at QA
    have HL := Lib.hid L
    clear L
    go_wp2_with fail
    refine (QA.out _).mono ?_
    rintro e w4 ⟨rfl, hb4⟩
    replace HL := Lib.hid (HL.out.on hb4)
    clear hb4 la
    have lb := LD.out _ _ b HI.out.2 HL.out.2.1
    cases hkb : okB b with
    | false =>
      rw [hkb] at QB
      clear hkb
      go_wp2_with fail
      refine (QB.out _).mono ?_
      rintro e w5 ⟨rfl, hb5⟩
      replace HL := Lib.hid (HL.out.on hb5)
      clear hb5
      go_wp2_with fail
      refine (awake7_any _).mono ?_
      rintro e w6 ⟨rfl, hb6⟩
      replace HL := Lib.hid (HL.out.on hb6)
      clear hb6
      go_wp2
      go_ret
      exact ⟨rfl, HL.out.2.2.1⟩
    | true =>
      rw [hkb] at QB
      go_wp2_with fail
      refine (QB.out _).mono ?_
      rintro e w5 ⟨rfl, hb5⟩
      replace HL := Lib.hid (HL.out.on hb5)
      clear hb5 lb
      have la := LD.out _ _ a HI.out.1 HL.out.1
      have YA := Lib.hid fun w' => lflay_any a w' (of_decide_eq_true hka) HI.out.1
      have YB := Lib.hid fun w' => lflay_any b w' (of_decide_eq_true hkb) HI.out.2
      have HRd := Lib.hid fun w' => lfread_any (layL a) w' (layL_length a HI.out.1) (layL_octets a)
      rw [read_lay (of_decide_eq_true hka) HI.out.1] at HRd
      have hq := fun w' => pg_equal w' (layL a) (layL b) (layL_length a HI.out.1) (layL_length b HI.out.2)
      have hr := fun w' => equal_leaf w' a b HI.out.1 HI.out.2
      have hqa := fun w' => equal_leaf w' a a HI.out.1 HI.out.1
      rw [(lfEq_iff a a).2 rfl] at hqa
      have hg1 := pg_guard
      have hg2 := guard_leaf
      have HE := Lib.hid (show ((layL a == layL b) == lfEq a b) = true by
        rw [beq_iff_eq, Bool.eq_iff_iff, beq_iff_eq, lfEq_iff]
        exact ⟨fun h => lay_inj (of_decide_eq_true hka) (of_decide_eq_true hkb) HI.out.1 HI.out.2 h, fun h => by rw [h]⟩)
      clear hka hkb QA QB
      go_wp2_with fail
      refine (YA.out _).mono ?_
      rintro e w6 ⟨rfl, hb6⟩
      replace HL := Lib.hid (HL.out.on hb6)
      clear hb6 la
      go_wp2_with fail
      refine (HRd.out _).mono ?_
      rintro e w7 ⟨rfl, hb7⟩
      replace HL := Lib.hid (HL.out.on hb7)
      clear hb7 HRd
      go_wp2_with (first
        | ((with_reducible refine wpList_lf_alloc (o := ⟨some 5, .alloc _, _, _, _, _⟩) rfl rfl ?_); intro w8 x8 hB8 _)
        | ((with_reducible refine wpList_lf_store (o := ⟨none, .store _ _ _, _, _, _, _⟩) rfl _ _ rfl w7.heap.size a lf0 HI.out.1 lf0_in rfl rfl x8 ?_); intro w9 x9 hg9 _; have HL3 := Lib.hid (ThreeBx.made HL.out (below_stored hB8 hg9 hB8.size (Nat.le_refl _)) x9))
        | fail)
      clear x8 hB8 x9 hg9 HL
      generalize w7.heap.size = b7 at *
      refine wp_region_class (fun w' => ThreeBx w w' 24 (lcs a) 24 (lcs b) b7 24 (lcs a)) (by kernel_rfl) (by kernel_rfl) HL3.out.drew ?_
      intro X hX f hf hg
      have ca := fun x => LD.out _ _ a HI.out.1 (hf x).1.1
      have cb := fun x => LD.out _ _ b HI.out.2 (hf x).1.2.1
      have cc := fun x => LD.out _ _ a HI.out.1 (hf x).2.1
      have Hf := Lib.hid hf
      have Hg := Lib.hid hg
      clear hf hg HL3 LD
      generalize bs (layL a) = PA at *
      generalize bs (layL b) = PB at *
      generalize (layL a == layL b) = ea at *
      generalize lfEq a b = eb at *
      generalize hra : lcs a = ra at *
      generalize hrb : lcs b = rb at *
      have HR := Lib.hid (And.intro hra hrb)
      clear hra hrb
      try simp only [Act.put, List.setIfInBounds_toArray, List.set_cons_succ, List.set_cons_zero]
      repeat (go_big_quiet_step ((go_at_call 11; (first | with_reducible exact calls_class (YA.out _) (fun _ hb => Hg.out _ ((Hf.out _).on hb)) | with_reducible exact calls_class (YB.out _) (fun _ hb => Hg.out _ ((Hf.out _).on hb))))))
      refine wpQuiet_nil ?_
      rintro _ ⟨x, rfl⟩
      have HL := Lib.hid (Hf.out x).1.2.2.1
      clear ca cb cc Hf Hg hq hr hqa
      generalize f x = W at HL ⊢
      go_wp2
      go_ret
      exact ⟨ret_bool HE.out.symm, HL.out⟩

set_option maxRecDepth 100000 in
set_option maxHeartbeats 4000000 in
theorem lflaw_alone (a : Lf) (b : Rec.Rc) (w : World) (ha : In a) (hb : Rec.In b) :
    Calls Try.prog 6 #[.agg (lcs a).toArray, .agg (rcs b).toArray] w fun e w' => e = .returned (.bool true) ∧ Below w.heap.size w w' := by
  obtain ⟨mr, hmr, hszr⟩ := big_size (P := Try.prog) (t := 24) (s := 12) (by kernel_rfl)
  obtain ⟨mq, hmq, hszq⟩ := big_size (P := Try.prog) (t := 42) (s := 37) (by kernel_rfl)
  have hmr0 : ¬ mr = 0 := by omega
  have hmq0 : ¬ mq = 0 := by omega
  have HI := Lib.hid (And.intro ha hb)
  have HM := Lib.hid (And.intro hmr hmq)
  have QA := Lib.hid fun w' => lfright_any a w' ha
  have QB := Lib.hid fun w' => recright_any b w' hb
  clear ha hb hmr hmq
  have LA := Lib.hid fun (W : World) (L : TwoBx w W 24 (lcs a) 42 (rcs b)) => big_load0 Try.prog w.heap.size 0 (lcs a) mr (by rw [lcs_length HI.out.1, HM.out.1]) W L.1.range0
  have LB := Lib.hid fun (W : World) (L : TwoBx w W 24 (lcs a) 42 (rcs b)) => big_load0 Try.prog (w.heap.size + 1) 0 (rcs b) mq (by rw [rcs_length HI.out.2.1, HM.out.2]) W L.2.1.range0
  go_enter Try.func6, Try.ntmps6
  go_wp2_with (first
    | ((with_reducible refine wpList_lf_box (o := ⟨some 2, .box _ _, _, _, _, _⟩) rfl _ rfl a rfl ?_); intro w1 x0 hB1 hs1)
    | ((with_reducible refine wpList_rc_box (o := ⟨some 3, .box _ _, _, _, _, _⟩) rfl _ rfl b rfl ?_); intro w2 x1 hB2 hs2; have L := TwoBx.start x0 hB1 hs1 x1 hB2 hs2; rw [hs1]; clear hs1 hs2 x0 x1 hB1 hB2)
    | fail)
  refine (awake7_any _).mono ?_
  rintro e w3 ⟨rfl, hb3⟩
  replace L := L.on hb3
  clear hb3
  have la := LA.out _ L
  cases hka : okB a with
  | false =>
    rw [hka] at QA
    clear hka
    have HL := Lib.hid L
    clear L
    go_wp2_with fail
    refine (QA.out _).mono ?_
    rintro e w4 ⟨rfl, hb4⟩
    replace HL := Lib.hid (HL.out.on hb4)
    clear hb4
    go_wp2_with fail
    refine (awake7_any _).mono ?_
    rintro e w5 ⟨rfl, hb5⟩
    replace HL := Lib.hid (HL.out.on hb5)
    clear hb5
    go_wp2
    go_ret
    exact ⟨rfl, HL.out.2.2.1⟩
  | true =>
    rw [hka] at QA
    have HL := Lib.hid L
    clear L
    go_wp2_with fail
    refine (QA.out _).mono ?_
    rintro e w4 ⟨rfl, hb4⟩
    replace HL := Lib.hid (HL.out.on hb4)
    clear hb4 la
    have lb := LB.out _ HL.out
    cases hkb : Rec.okB b with
    | false =>
      rw [hkb] at QB
      clear hkb
      go_wp2_with fail
      refine (QB.out _).mono ?_
      rintro e w5 ⟨rfl, hb5⟩
      replace HL := Lib.hid (HL.out.on hb5)
      clear hb5
      go_wp2_with fail
      refine (awake7_any _).mono ?_
      rintro e w6 ⟨rfl, hb6⟩
      replace HL := Lib.hid (HL.out.on hb6)
      clear hb6
      go_wp2
      go_ret
      exact ⟨rfl, HL.out.2.2.1⟩
    | true =>
      rw [hkb] at QB
      go_wp2_with fail
      refine (QB.out _).mono ?_
      rintro e w5 ⟨rfl, hb5⟩
      replace HL := Lib.hid (HL.out.on hb5)
      clear hb5 lb
      have la := LA.out _ HL.out
      have hkb' : Rec.Ok b := of_decide_eq_true hkb
      have YA := Lib.hid fun w' => lflay_any a w' (of_decide_eq_true hka) HI.out.1
      have YB := Lib.hid fun w' => lay_any b w' hkb' HI.out.2
      have RA := Lib.hid fun w' => read_any (layL a) w' (layL_length a HI.out.1) (layL_octets a)
      rw [rec_of_leaf a HI.out.1] at RA
      have RB := Lib.hid fun w' => lfread_any (Rec.layL b) w' (Rec.layL_length b HI.out.2.1) (Rec.layL_octets hkb' HI.out.2.2)
      rw [leaf_of_rec b hkb' HI.out.2] at RB
      clear hka hkb hkb' QA QB
      go_wp2_with fail
      refine (YA.out _).mono ?_
      rintro e w6 ⟨rfl, hb6⟩
      replace HL := Lib.hid (HL.out.on hb6)
      clear hb6 la
      go_wp2_with fail
      refine (RA.out _).mono ?_
      rintro e w7 ⟨rfl, hb7⟩
      replace HL := Lib.hid (HL.out.on hb7)
      clear hb7 RA YA
      go_wp2_with (first
        | ((with_reducible refine wpList_rc_alloc (o := ⟨some 5, .alloc _, _, _, _, _⟩) rfl rfl ?_); intro w8 x8 hB8 _)
        | ((with_reducible refine wpList_rc_store (o := ⟨none, .store _ _ _, _, _, _, _⟩) rfl _ _ rfl w7.heap.size Rec.rc0 Rec.rc0 Rec.rc0_in Rec.rc0_in rfl rfl x8 ?_); intro w9 x9 hg9 _; have HL3 := Lib.hid (HL.out.on (below_stored hB8 hg9 hB8.size (Nat.le_refl _))); have lb := LB.out _ HL3.out)
        | fail)
      clear x8 hB8 x9 hg9 HL
      generalize w7.heap.size = b7 at *
      refine (YB.out _).mono ?_
      rintro e w10 ⟨rfl, hb10⟩
      replace HL3 := Lib.hid (HL3.out.on hb10)
      clear hb10 lb
      go_wp2_with fail
      refine (RB.out _).mono ?_
      rintro e w11 ⟨rfl, hb11⟩
      replace HL3 := Lib.hid (HL3.out.on hb11)
      clear hb11 RB YB
      go_wp2_with (first
        | ((with_reducible refine wpList_lf_alloc (o := ⟨some 7, .alloc _, _, _, _, _⟩) rfl rfl ?_); intro w12 x12 hB12 _)
        | ((with_reducible refine wpList_lf_store (o := ⟨none, .store _ _ _, _, _, _, _⟩) rfl _ _ rfl w11.heap.size lf0 lf0 lf0_in lf0_in rfl rfl x12 ?_); intro w13 x13 hg13 _; have HL4 := Lib.hid (HL3.out.on (below_stored hB12 hg13 hB12.size (Nat.le_refl _))))
        | fail)
      go_ret
      exact ⟨rfl, HL4.out.2.2.1⟩
end Go.Proofs.Ytlpkmggboihdjaa

/-
  The walks of the laws MastLays, MastBack, MastAlone.
-/
import Derived.Test.YtoehflalpidhfaaMsF
import Derived.Test.YtoehflalpidhfaaMsN
import Derived.Test.YtoehflalpidhfaaRecE
import Derived.Test.YtoehflalpidhfaaLfE
namespace Go.Proofs.Ytoehflalpidhfaa
open Go.RowKit Word Crc Mast
set_option linter.unusedVariables false

set_option maxRecDepth 100000 in
set_option maxHeartbeats 4000000 in
theorem mslaw_lays (r : Mst) (w : World) (hi : In r) :
    Calls Try.prog 3 #[.agg (mcs r).toArray] w fun e w' => e = .returned (.bool true) ∧ Below w.heap.size w w' := by
  obtain ⟨mr, hmr, hszr⟩ := big_size (P := Try.prog) (t := 24) (s := 6) (by kernel_rfl)
  have hmr0 : ¬ mr = 0 := by omega
  have HI := Lib.hid hi
  have HM := Lib.hid hmr
  have QA := Lib.hid fun w' => msright_any r w'
  have QB := Lib.hid fun w' => rright8_any r w'
  have QW := Lib.hid fun w' => awake8_any w'
  have LA := Lib.hid fun (W : World) (b : Nat) (x : Mst) (h : Box W b 24 (mcs x)) => big_load0 Try.prog b 0 (mcs x) mr (by rw [mcs_length, HM.out]) W h.range0
  clear hi hmr
  go_enter Try.func3, Try.ntmps3
  go_wp2_with (first
    | ((with_reducible refine wpList_ms_box (o := ⟨some 1, .box _ _, _, _, _, _⟩) rfl _ rfl r rfl ?_); intro w1 x0 hB1 hs1)
    | fail)
  have L : Bxs w w1 [(w.heap.size, 24, mcs r)] := (Bxs.nil w).add hB1 x0
  clear x0 hB1 hs1
  refine wp_region_class (fun w' => Bxs w w' [(w.heap.size, 24, mcs r)]) (by kernel_rfl) (by kernel_rfl) L.drew ?_
  intro X hX f hf hg
  have ca := fun x => LA.out _ _ _ (hf x).head
  have Hf := Lib.hid hf
  have Hg := Lib.hid hg
  clear hf hg L
  try simp only [Act.put, List.setIfInBounds_toArray, List.set_cons_succ, List.set_cons_zero]
  generalize hok : okB r = ok at QA QB
  have HOK := Lib.hid hok
  clear hok
  have hne : (ok != ok) = false := by cases ok <;> rfl
  repeat (go_big_quiet_step (first
    | (go_at_call 8; with_reducible exact calls_class (QW.out _) (fun _ hb => Hg.out _ ((Hf.out _).on hb)))
    | (go_at_call 9; with_reducible exact calls_class (QA.out _) (fun _ hb => Hg.out _ ((Hf.out _).on hb)))
    | (go_at_call 10; with_reducible exact calls_class (QB.out _) (fun _ hb => Hg.out _ ((Hf.out _).on hb)))))
  refine wpQuiet_nil ?_
  rintro _ ⟨x, rfl⟩
  have L := Hf.out x
  clear ca Hf Hg QW hX
  generalize f x = W2 at L ⊢
  go_wp2_with fail
  cases ok with
  | false =>
    refine wp_region_class (fun w' => Bxs w w' [(w.heap.size, 24, mcs r)]) (by kernel_rfl) (by kernel_rfl) L.drew ?_
    intro X hX f hf hg
    have ca := fun x => LA.out _ _ _ (hf x).head
    have Hf := Lib.hid hf
    have Hg := Lib.hid hg
    clear hf hg L
    try simp only [Act.put, List.setIfInBounds_toArray, List.set_cons_succ, List.set_cons_zero]
    repeat (go_big_quiet_step ((go_at_call 10; with_reducible exact calls_class (QB.out _) (fun _ hb => Hg.out _ ((Hf.out _).on hb)))))
    refine wpQuiet_nil ?_
    rintro _ ⟨x, rfl⟩
    have HL := Lib.hid (Hf.out x).below
    clear ca Hf Hg hX
    generalize f x = W3 at HL ⊢
    go_wp2
    go_ret
    exact ⟨rfl, HL.out⟩
  | true =>
    have hk : Ok r := of_decide_eq_true HOK.out
    have YA := Lib.hid fun w' => mslay_any r w' HI.out
    rw [layS_ok hk] at YA
    have YB := Lib.hid fun w' => rlay8_any r w' hk HI.out
    have hq := fun w' => pg_equal w' (layL r) (layL r) (layL_length r) (layL_length r)
    rw [beq_self_eq_true] at hq
    have hgd := pg_guard
    clear hk
    refine wp_region_class (fun w' => Bxs w w' [(w.heap.size, 24, mcs r)]) (by kernel_rfl) (by kernel_rfl) L.drew ?_
    intro X hX f hf hg
    have ca := fun x => LA.out _ _ _ (hf x).head
    have Hf := Lib.hid hf
    have Hg := Lib.hid hg
    clear hf hg L
    try simp only [Act.put, List.setIfInBounds_toArray, List.set_cons_succ, List.set_cons_zero]
    generalize bs (layL r) = Y at *
    generalize mcs r = R at *
    repeat (go_big_quiet_step (first
      | (go_at_call 10; with_reducible exact calls_class (QB.out _) (fun _ hb => Hg.out _ ((Hf.out _).on hb)))
      | (go_at_call 11; with_reducible exact calls_class (YA.out _) (fun _ hb => Hg.out _ ((Hf.out _).on hb)))
      | (go_at_call 12; with_reducible exact calls_class (YB.out _) (fun _ hb => Hg.out _ ((Hf.out _).on hb)))))
    refine wpQuiet_nil ?_
    rintro _ ⟨x, rfl⟩
    have HL := Lib.hid (Hf.out x).below
    clear ca Hf Hg hX hq
    generalize f x = W3 at HL ⊢
    go_wp2
    go_ret
    exact ⟨rfl, HL.out⟩

set_option maxRecDepth 100000 in
set_option maxHeartbeats 8000000 in
theorem mslaw_back (a b : Mst) (g : Ge) (w : World) (ha : In a) (hb : In b) (hg : g.seq < 9223372036854775808) :
    Calls Try.prog 5 #[.agg (mcs a).toArray, .agg (mcs b).toArray, .agg (gcs g).toArray] w fun e w' => e = .returned (.bool true) ∧ Below w.heap.size w w' := by
  obtain ⟨m6, hm, hsz⟩ := big_size (P := Try.prog) (t := 28) (s := 64) (by kernel_rfl)
  obtain ⟨mr, hmr, hszr⟩ := big_size (P := Try.prog) (t := 24) (s := 6) (by kernel_rfl)
  obtain ⟨mg, hmg, hszg⟩ := big_size (P := Try.prog) (t := 38) (s := 5) (by kernel_rfl)
  have hm0 : ¬ m6 = 0 := by omega
  have hmr0 : ¬ mr = 0 := by omega
  have hmg0 : ¬ mg = 0 := by omega
  have HM := Lib.hid (And.intro hm (And.intro hmr hmg))
  have LA := Lib.hid fun (W : World) (b : Nat) (x : Mst) (h : Box W b 24 (mcs x)) => big_load0 Try.prog b 0 (mcs x) mr (by rw [mcs_length, HM.out.2.1]) W h.range0
  have LG := Lib.hid fun (W : World) (b : Nat) (x : Ge) (h : Box W b 38 (gcs x)) => big_load0 Try.prog b 0 (gcs x) mg (by rw [gcs_length, HM.out.2.2]) W h.range0
  have LP := Lib.hid fun (W : World) (b : Nat) (x : List Int) (hx : x.length = 64) (h : Box W b 28 (bs x)) => big_load0 Try.prog b 0 (bs x) m6 (by rw [bs_length, hx, HM.out.1]) W h.range0
  clear hm hmr hmg
  have HI := Lib.hid (And.intro ha (And.intro hb hg))
  have QA := Lib.hid fun w' => msright_any a w'
  have QB := Lib.hid fun w' => msright_any b w'
  clear ha hb hg
  go_enter Try.func5, Try.ntmps5
  go_wp2_with (first
    | ((with_reducible refine wpList_ms_box (o := ⟨some 3, .box _ _, _, _, _, _⟩) rfl _ rfl a rfl ?_); intro w1 x1 hB1 hs1; clear hs1; have L1 := (Bxs.nil w).add hB1 x1; clear x1 hB1)
    | ((with_reducible refine wpList_ms_box (o := ⟨some 4, .box _ _, _, _, _, _⟩) rfl _ rfl b rfl ?_); intro w2 x2 hB2 hs2; clear hs2; have L2 := L1.add hB2 x2; clear x2 hB2 L1)
    | ((with_reducible refine wpList_ge_box (o := ⟨some 5, .box _ _, _, _, _, _⟩) rfl _ rfl g rfl ?_); intro w3 x3 hB3 hs3; clear hs3; have L := L2.add hB3 x3; clear x3 hB3 L2)
    | fail)
  generalize w2.heap.size = b3 at *
  generalize w1.heap.size = b2 at *
  generalize w.heap.size = b1 at L ⊢
  refine (awake8_any _).mono ?_
  rintro e w4 ⟨rfl, hb4⟩
  replace L := L.on hb4
  clear hb4
  have la := LA.out _ _ _ L.tail.tail.head
  cases hka : okB a with
  | false =>
    rw [hka] at QA
    clear hka
    have HL := Lib.hid L
    clear L
    go_wp2_with fail
    refine (QA.out _).mono ?_
    rintro e w5 ⟨rfl, hb5⟩
    have L := HL.out.on hb5
    clear hb5 HL la
    go_wp2_with fail
    refine (awake8_any _).mono ?_
    rintro e w5 ⟨rfl, hb5⟩
    replace L := L.on hb5
    clear hb5
    have HB := Lib.hid L.below
    clear L
    go_wp2
    go_ret
    exact ⟨rfl, HB.out⟩
  | true =>
    rw [hka] at QA
    have HL := Lib.hid L
    clear L
    go_wp2_with fail
    refine (QA.out _).mono ?_
    rintro e w5 ⟨rfl, hb5⟩
    replace HL := Lib.hid (HL.out.on hb5)
    clear hb5 la
    have lb := LA.out _ _ _ HL.out.tail.head
    cases hkb : okB b with
    | false =>
      rw [hkb] at QB
      clear hkb
      go_wp2_with fail
      refine (QB.out _).mono ?_
      rintro e w6 ⟨rfl, hb6⟩
      have L := HL.out.on hb6
      clear hb6 HL lb
      go_wp2_with fail
      refine (awake8_any _).mono ?_
      rintro e w7 ⟨rfl, hb7⟩
      replace L := L.on hb7
      clear hb7
      have HB := Lib.hid L.below
      clear L
      go_wp2
      go_ret
      exact ⟨rfl, HB.out⟩
    | true =>
      rw [hkb] at QB
      go_wp2_with fail
      refine (QB.out _).mono ?_
      rintro e w6 ⟨rfl, hb6⟩
      replace HL := Lib.hid (HL.out.on hb6)
      clear hb6 lb
      have la := LA.out _ _ _ HL.out.tail.tail.head
      have hoa : Ok a := of_decide_eq_true hka
      have hob : Ok b := of_decide_eq_true hkb
      have YA := Lib.hid fun w' => mslay_any a w' HI.out.1
      rw [layS_ok hoa] at YA
      have YB := Lib.hid fun w' => mslay_any b w' HI.out.2.1
      rw [layS_ok hob] at YB
      have HRd := Lib.hid fun w' => msread_any (layL a) w' (layL_length a) (layL_octets a)
      rw [read_lay hoa HI.out.1] at HRd
      have hq := fun w' => pg_equal w' (layL a) (layL b) (layL_length a) (layL_length b)
      have hr := fun w' => equal_mast w' a b
      have hqa := fun w' => equal_mast w' a a
      rw [(msEq_iff a a).2 rfl] at hqa
      have hg1 := pg_guard
      have hg2 := guard_mast
      rw [show (layL a == layL b) = msEq a b by
        rw [Bool.eq_iff_iff, beq_iff_eq, msEq_iff]
        exact ⟨fun h => lay_inj hoa hob HI.out.1 HI.out.2.1 h, fun h => by rw [h]⟩] at hq
      clear hka hkb QA QB hoa hob
      go_wp2_with fail
      refine (YA.out _).mono ?_
      rintro e w7 ⟨rfl, hb7⟩
      replace HL := Lib.hid (HL.out.on hb7)
      clear hb7 la
      go_wp2_with fail
      refine (HRd.out _).mono ?_
      rintro e w8 ⟨rfl, hb8⟩
      replace HL := Lib.hid (HL.out.on hb8)
      clear hb8 HRd
      go_wp2_with (first
        | ((with_reducible refine wpList_ms_alloc (o := ⟨some 7, .alloc _, _, _, _, _⟩) rfl rfl ?_); intro w9 x9 hB9 hs9; clear hs9)
        | ((with_reducible refine wpList_ms_store (o := ⟨none, .store _ _ _, _, _, _, _⟩) rfl _ _ rfl w8.heap.size a m0 rfl rfl x9 ?_); intro w10 x10 hg10 hs10; clear hs10; have L := HL.out.made hB9 hg10 x10; clear x9 hB9 x10 hg10 HL)
        | fail)
      generalize w8.heap.size = b4 at *
      refine wp_region_class (fun w' => Bxs w w' [(b4, 24, mcs a), (b3, 38, gcs g), (b2, 24, mcs b), (b1, 24, mcs a)]) (by kernel_rfl) (by kernel_rfl) L.drew ?_
      intro X hX f hf hg
      have ca := fun x => LA.out _ _ _ (hf x).tail.tail.tail.head
      have cb := fun x => LA.out _ _ _ (hf x).tail.tail.head
      have cc := fun x => LA.out _ _ _ (hf x).head
      have Hf := Lib.hid hf
      have Hg := Lib.hid hg
      clear hf hg L
      generalize bs (layL a) = PA at *
      generalize bs (layL b) = PB at *
      generalize msEq a b = eb at *
      generalize hra : mcs a = ra at *
      generalize hrb : mcs b = rb at *
      have HR := Lib.hid (And.intro hra hrb)
      clear hra hrb
      try simp only [Act.put, List.setIfInBounds_toArray, List.set_cons_succ, List.set_cons_zero]
      repeat (go_big_quiet_step ((go_at_call 11; (first | with_reducible exact calls_class (YA.out _) (fun _ hb => Hg.out _ ((Hf.out _).on hb)) | with_reducible exact calls_class (YB.out _) (fun _ hb => Hg.out _ ((Hf.out _).on hb))))))
      refine wpQuiet_nil ?_
      rintro _ ⟨x, rfl⟩
      have L := (Hf.out x).tail
      clear ca cb cc Hf Hg hq hr hqa
      generalize f x = W at L ⊢
      clear hX
      -- the measure
      have HQ := Lib.hid fun w' => (rright_any g.conv g.soft g.seq g.size g.opn w')
      change Hid (∀ w', Calls Try.prog 18 #[.agg (gcs g).toArray] w' fun e w1 => e = .returned (.bool (grB g)) ∧ _) at HQ
      have hld := LG.out _ _ _ L.head
      have HL := Lib.hid L
      clear L
      cases hgr : grB g with
      | false =>
        rw [hgr] at HQ
        go_wp2_with fail
        refine (HQ.out _).mono ?_
        rintro e w11 ⟨rfl, hb11⟩
        have HB := Lib.hid (HL.out.on hb11).below
        clear hb11 HL hld
        go_wp2
        go_ret
        exact ⟨rfl, HB.out⟩
      | true =>
        rw [hgr] at HQ
        go_wp2_with fail
        refine (HQ.out _).mono ?_
        rintro e w11 ⟨rfl, hb11⟩
        have L := HL.out.on hb11
        have co := L.head.ge.2.2.2.2
        clear hb11 HL hld
        by_cases hop : g.opn ≤ 2147483647
        case neg =>
          have hd : decide (2147483647 < g.opn) = true := decide_eq_true (by omega)
          have HB := Lib.hid L.below
          clear L
          go_wp2
          go_ret
          exact ⟨rfl, HB.out⟩
        have hd : decide (2147483647 < g.opn) = false := decide_eq_false (by omega)
        have hgk : GOk g := ⟨of_decide_eq_true hgr, hop⟩
        have hld := LG.out _ _ _ L.head
        have HL := Lib.hid L
        have YG := Lib.hid fun w' => gelay_any g w' HI.out.2.2
        rw [glayS_ok hgk] at YG
        have YR := Lib.hid fun w' => rglay8_any g w' hgk
        have RG := Lib.hid fun w' => geread_any (glayL g) w' (glayL_length g) (glayL_octets g)
        rw [gread_lay hgk] at RG
        have hq := fun w' => pg_equal w' (glayL g) (glayL g) (glayL_length g) (glayL_length g)
        rw [beq_self_eq_true] at hq
        have hqa := fun w' => equal_geo w' g g
        rw [(geEq_iff g g).2 rfl] at hqa
        have hg3 := guard_geo
        clear L hgr hop hgk
        go_wp2_with fail
        refine (YG.out _).mono ?_
        rintro e w12 ⟨rfl, hb12⟩
        replace HL := Lib.hid (HL.out.on hb12)
        clear hb12 hld co hd
        go_wp2_with fail
        refine (RG.out _).mono ?_
        rintro e w13 ⟨rfl, hb13⟩
        replace HL := Lib.hid (HL.out.on hb13)
        clear hb13 RG
        go_wp2_with (first
          | ((with_reducible refine wpList_ge_alloc (o := ⟨some 9, .alloc _, _, _, _, _⟩) rfl rfl ?_); intro w14 x14 hB14 hs14; clear hs14)
          | ((with_reducible refine wpList_ge_store (o := ⟨none, .store _ _ _, _, _, _, _⟩) rfl _ _ rfl w13.heap.size g g0 rfl rfl x14 ?_); intro w15 x15 hg15 hs15; clear hs15; have L := HL.out.made hB14 hg15 x15; clear x14 hB14 x15 hg15 HL)
          | fail)
        generalize w13.heap.size = b5 at *
        refine wp_region_class (fun w' => Bxs w w' [(b5, 38, gcs g), (b3, 38, gcs g), (b2, 24, rb), (b1, 24, ra)]) (by kernel_rfl) (by kernel_rfl) L.drew ?_
        intro X hX f hf hg
        have ca := fun x => LG.out _ _ _ (hf x).tail.head
        have cc := fun x => LG.out _ _ _ (hf x).head
        have Hf := Lib.hid hf
        have Hg := Lib.hid hg
        clear hf hg L
        generalize bs (glayL g) = PG at *
        generalize hgg : gcs g = gg at *
        try simp only [Act.put, List.setIfInBounds_toArray, List.set_cons_succ, List.set_cons_zero]
        repeat (go_big_quiet_step (first
          | (go_at_call 19; with_reducible exact calls_class (YG.out _) (fun _ hb => Hg.out _ ((Hf.out _).on hb)))
          | (go_at_call 20; with_reducible exact calls_class (YR.out _) (fun _ hb => Hg.out _ ((Hf.out _).on hb)))))
        refine wpQuiet_nil ?_
        rintro _ ⟨x, rfl⟩
        have HB := Lib.hid (Hf.out x).below
        clear ca cc Hf Hg hq hqa
        generalize f x = W at HB ⊢
        clear hX
        go_wp2
        go_ret
        exact ⟨rfl, HB.out⟩
end Go.Proofs.Ytoehflalpidhfaa

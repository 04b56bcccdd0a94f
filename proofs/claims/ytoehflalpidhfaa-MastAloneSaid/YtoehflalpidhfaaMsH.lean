/-
  The walk of the law MastAlone.
-/
import Derived.Test.YtoehflalpidhfaaMsG
import Derived.Test.YtoehflalpidhfaaLfF
namespace Go.Proofs.Ytoehflalpidhfaa
open Go.RowKit Word Crc Mast
set_option linter.unusedVariables false

set_option maxRecDepth 100000 in
set_option maxHeartbeats 8000000 in
theorem mslaw_alone (a : Mst) (g : Ge) (l : Leaf.Lf) (r : Rec.Rc) (w : World) (ha : In a) (hg : g.seq < 9223372036854775808) (hl : Leaf.In l) (hr : Rec.In r) :
    Calls Try.prog 6 #[.agg (mcs a).toArray, .agg (gcs g).toArray, .agg (lcs l).toArray, .agg (rcs r).toArray] w fun e w' => e = .returned (.bool true) ∧ Below w.heap.size w w' := by
  obtain ⟨m6, hm, hsz⟩ := big_size (P := Try.prog) (t := 28) (s := 64) (by kernel_rfl)
  obtain ⟨mr, hmr, hszr⟩ := big_size (P := Try.prog) (t := 24) (s := 6) (by kernel_rfl)
  obtain ⟨mg, hmg, hszg⟩ := big_size (P := Try.prog) (t := 38) (s := 5) (by kernel_rfl)
  obtain ⟨ml, hml, hszl⟩ := big_size (P := Try.prog) (t := 49) (s := 12) (by kernel_rfl)
  obtain ⟨mq, hmq, hszq⟩ := big_size (P := Try.prog) (t := 53) (s := 37) (by kernel_rfl)
  have hm0 : ¬ m6 = 0 := by omega
  have hmr0 : ¬ mr = 0 := by omega
  have hmg0 : ¬ mg = 0 := by omega
  have hml0 : ¬ ml = 0 := by omega
  have hmq0 : ¬ mq = 0 := by omega
  have HM := Lib.hid (And.intro hm (And.intro hmr (And.intro hmg (And.intro hml hmq))))
  have LA := Lib.hid fun (W : World) (b : Nat) (x : Mst) (h : Box W b 24 (mcs x)) => big_load0 Try.prog b 0 (mcs x) mr (by rw [mcs_length, HM.out.2.1]) W h.range0
  have LG := Lib.hid fun (W : World) (b : Nat) (x : Ge) (h : Box W b 38 (gcs x)) => big_load0 Try.prog b 0 (gcs x) mg (by rw [gcs_length, HM.out.2.2.1]) W h.range0
  have LP := Lib.hid fun (W : World) (b : Nat) (x : List Int) (hx : x.length = 64) (h : Box W b 28 (bs x)) => big_load0 Try.prog b 0 (bs x) m6 (by rw [bs_length, hx, HM.out.1]) W h.range0
  have LL := Lib.hid fun (W : World) (b : Nat) (x : Leaf.Lf) (hx : Leaf.In x) (h : Box W b 49 (lcs x)) => big_load0 Try.prog b 0 (lcs x) ml (by rw [lcs_length hx, HM.out.2.2.2.1]) W h.range0
  have LQ := Lib.hid fun (W : World) (b : Nat) (x : Rec.Rc) (hx : Rec.In x) (h : Box W b 53 (rcs x)) => big_load0 Try.prog b 0 (rcs x) mq (by rw [rcs_length hx.1, HM.out.2.2.2.2]) W h.range0
  clear hm hmr hmg hml hmq
  have HI := Lib.hid (And.intro ha (And.intro hg (And.intro hl hr)))
  have QA := Lib.hid fun w' => msright_any a w'
  have QG := Lib.hid fun w' => (rright_any g.conv g.soft g.seq g.size g.opn w')
  change Hid (∀ w', Calls Try.prog 18 #[.agg (gcs g).toArray] w' fun e w1 => e = .returned (.bool (grB g)) ∧ _) at QG
  have QL := Lib.hid fun w' => lfright_any l w' hl
  have QR := Lib.hid fun w' => recright_any r w' hr
  clear ha hg hl hr
  go_enter Try.func6, Try.ntmps6
  go_wp2_with (first
    | ((with_reducible refine wpList_ms_box (o := ⟨some 4, .box _ _, _, _, _, _⟩) rfl _ rfl a rfl ?_); intro w1 x1 hB1 hs1; clear hs1; have L1 := (Bxs.nil w).add hB1 x1; clear x1 hB1)
    | ((with_reducible refine wpList_ge_box (o := ⟨some 5, .box _ _, _, _, _, _⟩) rfl _ rfl g rfl ?_); intro w2 x2 hB2 hs2; clear hs2; have L2 := L1.add hB2 x2; clear x2 hB2 L1)
    | ((with_reducible refine wpList_lf_box (o := ⟨some 6, .box _ _, _, _, _, _⟩) rfl _ rfl l rfl ?_); intro w3 x3 hB3 hs3; clear hs3; have L3 := L2.add hB3 x3; clear x3 hB3 L2)
    | ((with_reducible refine wpList_rc_box (o := ⟨some 7, .box _ _, _, _, _, _⟩) rfl _ rfl r rfl ?_); intro w4 x4 hB4 hs4; clear hs4; have L := L3.add hB4 x4; clear x4 hB4 L3)
    | fail)
  generalize w3.heap.size = b4 at *
  generalize w2.heap.size = b3 at *
  generalize w1.heap.size = b2 at *
  generalize w.heap.size = b1 at L ⊢
  refine (awake8_any _).mono ?_
  rintro e w5 ⟨rfl, hb5⟩
  have HL := Lib.hid (L.on hb5)
  clear hb5 L
  have hld := LA.out _ _ _ HL.out.tail.tail.tail.head
  cases hka : okB a with
  | false =>
    rw [hka] at QA
    clear hka
    go_wp2_with fail
    refine (QA.out _).mono ?_
    rintro e w6 ⟨rfl, hb6⟩
    replace HL := Lib.hid (HL.out.on hb6)
    clear hb6 hld
    go_wp2_with fail
    refine (awake8_any _).mono ?_
    rintro e w7 ⟨rfl, hb7⟩
    have HB := Lib.hid (HL.out.on hb7).below
    clear hb7 HL
    go_wp2
    go_ret
    exact ⟨rfl, HB.out⟩
  | true =>
    rw [hka] at QA
    go_wp2_with fail
    refine (QA.out _).mono ?_
    rintro e w6 ⟨rfl, hb6⟩
    replace HL := Lib.hid (HL.out.on hb6)
    clear hb6 hld
    have hld := LG.out _ _ _ HL.out.tail.tail.head
    cases hkg : grB g with
    | false =>
      rw [hkg] at QG
      clear hkg
      go_wp2_with fail
      refine (QG.out _).mono ?_
      rintro e w6 ⟨rfl, hb6⟩
      replace HL := Lib.hid (HL.out.on hb6)
      clear hb6 hld
      go_wp2_with fail
      refine (awake8_any _).mono ?_
      rintro e w7 ⟨rfl, hb7⟩
      have HB := Lib.hid (HL.out.on hb7).below
      clear hb7 HL
      go_wp2
      go_ret
      exact ⟨rfl, HB.out⟩
    | true =>
      rw [hkg] at QG
      go_wp2_with fail
      refine (QG.out _).mono ?_
      rintro e w6 ⟨rfl, hb6⟩
      replace HL := Lib.hid (HL.out.on hb6)
      clear hb6 hld
      have co := HL.out.tail.tail.head.ge.2.2.2.2
      by_cases hop : g.opn ≤ 2147483647
      case neg =>
        have hd : decide (2147483647 < g.opn) = true := decide_eq_true (by omega)
        go_wp2_with fail
        refine (awake8_any _).mono ?_
        rintro e w7 ⟨rfl, hb7⟩
        have HB := Lib.hid (HL.out.on hb7).below
        clear hb7 HL
        go_wp2
        go_ret
        exact ⟨rfl, HB.out⟩
      have hd : decide (2147483647 < g.opn) = false := decide_eq_false (by omega)
      have HGK := Lib.hid (show GOk g from ⟨of_decide_eq_true hkg, hop⟩)
      have HAK := Lib.hid (show Ok a from of_decide_eq_true hka)
      clear hop hkg hka
      have hld := LL.out _ _ _ HI.out.2.2.1 HL.out.tail.head
      cases hkl : Leaf.okB l with
      | false =>
        rw [hkl] at QL
        clear hkl
        go_wp2_with fail
        refine (QL.out _).mono ?_
        rintro e w6 ⟨rfl, hb6⟩
        replace HL := Lib.hid (HL.out.on hb6)
        clear hb6 hld
        go_wp2_with fail
        refine (awake8_any _).mono ?_
        rintro e w7 ⟨rfl, hb7⟩
        have HB := Lib.hid (HL.out.on hb7).below
        clear hb7 HL
        go_wp2
        go_ret
        exact ⟨rfl, HB.out⟩
      | true =>
        rw [hkl] at QL
        go_wp2_with fail
        refine (QL.out _).mono ?_
        rintro e w6 ⟨rfl, hb6⟩
        replace HL := Lib.hid (HL.out.on hb6)
        clear hb6 hld
        clear hd co
        have hld := LQ.out _ _ _ HI.out.2.2.2 HL.out.head
        cases hkr : Rec.okB r with
        | false =>
          rw [hkr] at QR
          clear hkr
          go_wp2_with fail
          refine (QR.out _).mono ?_
          rintro e w6 ⟨rfl, hb6⟩
          replace HL := Lib.hid (HL.out.on hb6)
          clear hb6 hld
          go_wp2_with fail
          refine (awake8_any _).mono ?_
          rintro e w7 ⟨rfl, hb7⟩
          have HB := Lib.hid (HL.out.on hb7).below
          clear hb7 HL
          go_wp2
          go_ret
          exact ⟨rfl, HB.out⟩
        | true =>
          rw [hkr] at QR
          go_wp2_with fail
          refine (QR.out _).mono ?_
          rintro e w6 ⟨rfl, hb6⟩
          replace HL := Lib.hid (HL.out.on hb6)
          clear hb6 hld
          have HLK := Lib.hid (show Leaf.Ok l from of_decide_eq_true hkl)
          have HRK := Lib.hid (show Rec.Ok r from of_decide_eq_true hkr)
          clear hkl hkr QA QG QL QR
          have YA := Lib.hid fun w' => mslay_any a w' HI.out.1
          rw [layS_ok HAK.out] at YA
          have YG := Lib.hid fun w' => gelay_any g w' HI.out.2.1
          rw [glayS_ok HGK.out] at YG
          have YL := Lib.hid fun w' => lflay_any l w' HLK.out HI.out.2.2.1
          have YR := Lib.hid fun w' => lay_any r w' HRK.out HI.out.2.2.2
          have R1 := Lib.hid fun w' => geread_any (layL a) w' (layL_length a) (layL_octets a)
          rw [geo_of_mast a] at R1
          have R2 := Lib.hid fun w' => lfread_any (layL a) w' (layL_length a) (layL_octets a)
          rw [leaf_of_mast a] at R2
          have R3 := Lib.hid fun w' => read_any (layL a) w' (layL_length a) (layL_octets a)
          rw [rec_of_mast a] at R3
          have R4 := Lib.hid fun w' => msread_any (glayL g) w' (glayL_length g) (glayL_octets g)
          rw [mast_of_geo g] at R4
          have R5 := Lib.hid fun w' => msread_any (Leaf.layL l) w' (Leaf.layL_length l HI.out.2.2.1) (Leaf.layL_octets l)
          rw [mast_of_leaf l] at R5
          have R6 := Lib.hid fun w' => msread_any (Rec.layL r) w' (Rec.layL_length r HI.out.2.2.2.1) (Rec.layL_octets HRK.out HI.out.2.2.2.2)
          rw [mast_of_rec r HRK.out HI.out.2.2.2] at R6
          have HPL := Lib.hid (layL_length a)
          generalize layL a = pa at *
          generalize glayL g = pg at *
          generalize Leaf.layL l = pl at *
          generalize Rec.layL r = pr at *
          have hld := LA.out _ _ _ HL.out.tail.tail.tail.head
          go_wp2_with fail
          refine (YA.out _).mono ?_
          rintro e v1 ⟨rfl, hb⟩
          replace HL := Lib.hid (HL.out.on hb)
          clear hb hld YA
          go_wp2_with (first
            | ((with_reducible refine wpList_pg_alloc (o := ⟨some 9, .alloc _, _, _, _, _⟩) rfl rfl ?_); intro v2 xx hB hs0; clear hs0)
            | ((with_reducible refine wpList_pg_store (o := ⟨none, .store _ _ _, _, _, _, _⟩) rfl _ _ rfl v1.heap.size pa pg0 HPL.out rfl rfl rfl xx ?_); intro v3 yy hg hs0; clear hs0; have L := HL.out.made hB hg yy; clear xx hB yy hg HL; have HL := Lib.hid L; clear L; have hld := LP.out _ _ _ HPL.out HL.out.head)
            | fail)
          generalize v1.heap.size = c9 at *
          refine (R1.out _).mono ?_
          rintro e v4 ⟨rfl, hb⟩
          replace HL := Lib.hid (HL.out.on hb)
          clear hb R1
          try clear hld
          go_wp2_with (first
            | ((with_reducible refine wpList_ge_alloc (o := ⟨some 10, .alloc _, _, _, _, _⟩) rfl rfl ?_); intro v5 xx hB hs0; clear hs0)
            | ((with_reducible refine wpList_ge_store (o := ⟨none, .store _ _ _, _, _, _, _⟩) rfl _ _ rfl v4.heap.size g0 g0  rfl rfl xx ?_); intro v6 yy hg hs0; clear hs0; have L := HL.out.made hB hg yy; clear xx hB yy hg HL; have HL := Lib.hid L; clear L; have hld := LP.out _ _ _ HPL.out HL.out.tail.head)
            | fail)
          generalize v4.heap.size = c10 at *
          refine (R2.out _).mono ?_
          rintro e v7 ⟨rfl, hb⟩
          replace HL := Lib.hid (HL.out.on hb)
          clear hb R2
          try clear hld
          go_wp2_with (first
            | ((with_reducible refine wpList_lf_alloc (o := ⟨some 12, .alloc _, _, _, _, _⟩) rfl rfl ?_); intro v8 xx hB hs0; clear hs0)
            | ((with_reducible refine wpList_lf_store (o := ⟨none, .store _ _ _, _, _, _, _⟩) rfl _ _ rfl v7.heap.size Leaf.lf0 Leaf.lf0 Leaf.lf0_in Leaf.lf0_in rfl rfl xx ?_); intro v9 yy hg hs0; clear hs0; have L := HL.out.made hB hg yy; clear xx hB yy hg HL; have HL := Lib.hid L; clear L; have hld := LP.out _ _ _ HPL.out HL.out.tail.tail.head)
            | fail)
          generalize v7.heap.size = c12 at *
          refine (R3.out _).mono ?_
          rintro e v10 ⟨rfl, hb⟩
          replace HL := Lib.hid (HL.out.on hb)
          clear hb R3
          try clear hld
          go_wp2_with (first
            | ((with_reducible refine wpList_rc_alloc (o := ⟨some 14, .alloc _, _, _, _, _⟩) rfl rfl ?_); intro v11 xx hB hs0; clear hs0)
            | ((with_reducible refine wpList_rc_store (o := ⟨none, .store _ _ _, _, _, _, _⟩) rfl _ _ rfl v10.heap.size Rec.rc0 Rec.rc0 Rec.rc0_in Rec.rc0_in rfl rfl xx ?_); intro v12 yy hg hs0; clear hs0; have L := HL.out.made hB hg yy; clear xx hB yy hg HL; have HL := Lib.hid L; clear L; have hld := LG.out _ _ _ HL.out.tail.tail.tail.tail.tail.tail.head)
            | fail)
          generalize v10.heap.size = c14 at *
          refine (YG.out _).mono ?_
          rintro e v13 ⟨rfl, hb⟩
          replace HL := Lib.hid (HL.out.on hb)
          clear hb YG
          try clear hld
          go_wp2_with fail
          refine (R4.out _).mono ?_
          rintro e v14 ⟨rfl, hb⟩
          replace HL := Lib.hid (HL.out.on hb)
          clear hb R4
          try clear hld
          go_wp2_with (first
            | ((with_reducible refine wpList_ms_alloc (o := ⟨some 16, .alloc _, _, _, _, _⟩) rfl rfl ?_); intro v15 xx hB hs0; clear hs0)
            | ((with_reducible refine wpList_ms_store (o := ⟨none, .store _ _ _, _, _, _, _⟩) rfl _ _ rfl v14.heap.size m0 m0  rfl rfl xx ?_); intro v16 yy hg hs0; clear hs0; have L := HL.out.made hB hg yy; clear xx hB yy hg HL; have HL := Lib.hid L; clear L; have hld := LL.out _ _ _ HI.out.2.2.1 HL.out.tail.tail.tail.tail.tail.tail.head)
            | fail)
          generalize v14.heap.size = c16 at *
          refine (YL.out _).mono ?_
          rintro e v17 ⟨rfl, hb⟩
          replace HL := Lib.hid (HL.out.on hb)
          clear hb YL
          try clear hld
          go_wp2_with fail
          refine (R5.out _).mono ?_
          rintro e v18 ⟨rfl, hb⟩
          replace HL := Lib.hid (HL.out.on hb)
          clear hb R5
          try clear hld
          go_wp2_with (first
            | ((with_reducible refine wpList_ms_alloc (o := ⟨some 18, .alloc _, _, _, _, _⟩) rfl rfl ?_); intro v19 xx hB hs0; clear hs0)
            | ((with_reducible refine wpList_ms_store (o := ⟨none, .store _ _ _, _, _, _, _⟩) rfl _ _ rfl v18.heap.size m0 m0  rfl rfl xx ?_); intro v20 yy hg hs0; clear hs0; have L := HL.out.made hB hg yy; clear xx hB yy hg HL; have HL := Lib.hid L; clear L; have hld := LQ.out _ _ _ HI.out.2.2.2 HL.out.tail.tail.tail.tail.tail.tail.head)
            | fail)
          generalize v18.heap.size = c18 at *
          refine (YR.out _).mono ?_
          rintro e v21 ⟨rfl, hb⟩
          replace HL := Lib.hid (HL.out.on hb)
          clear hb YR
          try clear hld
          go_wp2_with fail
          refine (R6.out _).mono ?_
          rintro e v22 ⟨rfl, hb⟩
          replace HL := Lib.hid (HL.out.on hb)
          clear hb R6
          try clear hld
          go_wp2_with (first
            | ((with_reducible refine wpList_ms_alloc (o := ⟨some 20, .alloc _, _, _, _, _⟩) rfl rfl ?_); intro v23 xx hB hs0; clear hs0)
            | ((with_reducible refine wpList_ms_store (o := ⟨none, .store _ _ _, _, _, _, _⟩) rfl _ _ rfl v22.heap.size m0 m0  rfl rfl xx ?_); intro v24 yy hg hs0; clear hs0; have L := HL.out.made hB hg yy; clear xx hB yy hg HL; have HL := Lib.hid L; clear L)
            | fail)
          -- generalize v22.heap.size = c20 at *
          go_ret
          exact ⟨rfl, HL.out.below⟩
end Go.Proofs.Ytoehflalpidhfaa

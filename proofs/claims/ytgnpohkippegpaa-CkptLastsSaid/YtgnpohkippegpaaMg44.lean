/-
  CkV
-/
import Derived.Test.YtgnpohkippegpaaMg43
import Derived.Test.YtgnpohkippegpaaMg17
/-
  Layer 13's laws: the law Lasts.
-/
namespace Go.Proofs.Ytgnpohkippegpaa
open Go.RowKit Geom Zone Dev Ckp Word
set_option linter.unusedVariables false
theorem tk_len {zs : List Int} {n : Nat} (h : zs.length = n) : zs.length = n := h

set_option maxRecDepth 100000 in
set_option maxHeartbeats 16000000 in
theorem cklaw_lasts (conv soft seq size opn : Int) (A1 A2 : Option Addr) (n1 cp1 n2 cp2 : Nat) (xs1 xs2 : List Int) (gen arm : Int) (keepA : Option Addr) (kn kc : Nat) (keep : List Int) (soft0 tear : Int) (w : World) (h64 : W64 conv ∧ W64 soft ∧ W64 seq ∧ W64 size ∧ W64 opn) (hm1 : n1 ≤ maxLen) (hl1 : xs1.length = n1) (hx1 : ∀ x ∈ xs1, 0 ≤ x ∧ x < 4294967296) (hr1 : Rd w w.heap.size A1 (u32s xs1)) (hm2 : n2 ≤ maxLen) (hl2 : xs2.length = n2) (hx2 : ∀ x ∈ xs2, 0 ≤ x ∧ x < 4294967296) (hr2 : Rd w w.heap.size A2 (u32s xs2)) (g64 : W64 gen) (harm : 0 ≤ arm ∧ arm ≤ 255)
    (kr : Rd w w.heap.size keepA (ints keep)) (kl : keep.length = kn) (kcap : kn ≤ kc) (kmc : kc ≤ maxLen) (k64 : ∀ y ∈ keep, W64 y) (t64 : W64 tear) :
    Calls Try.prog 4 #[gvl conv soft seq size opn, .slice A1 n1 cp1, .slice A2 n2 cp2, .int .i64 gen, .int .u8 arm, .agg #[.slice keepA kn kc, .int .u64 soft0, .int .i64 tear]] w fun e w' => e = .returned (.bool true) ∧ Below w.heap.size w w' := by
  have QW := Lib.hid fun w' => awake13_any w'
  have QL := Lib.hid fun w' => rcklittle_any conv soft seq size opn w' h64
  have HX1 := Lib.hid (And.intro hl1 (And.intro hx1 hr1))
  have HX2 := Lib.hid (And.intro hl2 (And.intro hx2 hr2))
  have HKp := Lib.hid (And.intro kr (And.intro kl (And.intro kcap (And.intro kmc k64))))
  have hml1 := hm1
  have hml2 := hm2
  unfold maxLen at hml1 hml2
  clear hl1 hx1 hr1 hl2 hx2 hr2 kr kl kcap kmc k64 hm1 hm2
  clear h64
  go_enter Try.func4, Try.ntmps4
  go_wp2_with (first
    | ((with_reducible refine wpList_box_box _ (o := ⟨some 6, .box _ _, _, _, _, _⟩) rfl _ _ rfl (gcl conv soft seq size opn) rfl ?_); go_loud (intro w1 x0 hB0 hs0))
    | ((with_reducible refine wpList_box_box _ (o := ⟨some 11, .box _ _, _, _, _, _⟩) rfl _ _ rfl ([.slice keepA kn kc, .int .u64 soft0, .int .i64 tear]) rfl ?_); go_loud (intro w2 x1 hB1 hs1; have HB := Lib.hid (show Box w2 w.heap.size 23 (gcl conv soft seq size opn) ∧ Box w2 w1.heap.size 52 ([.slice keepA kn kc, .int .u64 soft0, .int .i64 tear]) ∧ Below w.heap.size w w2 from ⟨(x0.on hB1), x1, (bthen hB0 hB1)⟩); have HNb : Hid (w.heap.size < w1.heap.size) := Lib.hid (by omega); clear x0 hB0 hs0 x1 hB1 hs1; generalize w1.heap.size = bx1 at *))
    | fail)
  refine (QW.out _).mono ?_
  rintro e wa ⟨rfl, hba⟩
  replace HB := Lib.hid (show Box wa w.heap.size 23 (gcl conv soft seq size opn) ∧ Box wa bx1 52 ([.slice keepA kn kc, .int .u64 soft0, .int .i64 tear]) ∧ Below w.heap.size w wa from ⟨HB.out.1.on hba, HB.out.2.1.on hba, bthen HB.out.2.2 hba⟩)
  clear hba
  have c0 : wa.cell? ⟨w.heap.size, 0, none⟩ = some (.int .i64 conv) := HB.out.1.cell 0
  have c1 : wa.cell? ⟨w.heap.size, 1, none⟩ = some (.int .i64 soft) := HB.out.1.cell 1
  have c2 : wa.cell? ⟨w.heap.size, 2, none⟩ = some (.int .i64 seq) := HB.out.1.cell 2
  have c3 : wa.cell? ⟨w.heap.size, 3, none⟩ = some (.int .i64 size) := HB.out.1.cell 3
  have c4 : wa.cell? ⟨w.heap.size, 4, none⟩ = some (.int .i64 opn) := HB.out.1.cell 4
  go_wp2_with fail
  refine (QL.out _).mono ?_
  rintro e wb ⟨rfl, hbb⟩
  replace HB := Lib.hid (show Box wb w.heap.size 23 (gcl conv soft seq size opn) ∧ Box wb bx1 52 ([.slice keepA kn kc, .int .u64 soft0, .int .i64 tear]) ∧ Below w.heap.size w wb from ⟨HB.out.1.on hbb, HB.out.2.1.on hbb, bthen HB.out.2.2 hbb⟩)
  clear hbb c0 c1 c2 c3 c4
  cases hli : littleC conv soft seq size opn with
  | false =>
    go_wp2_with fail
    refine (QW.out _).mono ?_
    rintro e w9 ⟨rfl, hb9⟩
    have H9 := Lib.hid (bthen HB.out.2.2 hb9)
    clear hb9
    go_wp2
    go_ret
    exact ⟨rfl, H9.out⟩
  | true =>
    have HLi := Lib.hid (little_yes hli)
    clear hli QL
    by_cases h5 : 500 < n1
    · have h5' : (500 : Int) < n1 := by omega
      go_wp2_with fail
      refine (QW.out _).mono ?_
      rintro e w9 ⟨rfl, hb9⟩
      have H9 := Lib.hid (bthen HB.out.2.2 hb9)
      clear hb9
      go_wp2
      go_ret
      exact ⟨rfl, H9.out⟩
    have h5' : ¬ (500 : Int) < n1 := by omega
    by_cases h6 : 500 < n2
    · have h6' : (500 : Int) < n2 := by omega
      go_wp2_with fail
      refine (QW.out _).mono ?_
      rintro e w9 ⟨rfl, hb9⟩
      have H9 := Lib.hid (bthen HB.out.2.2 hb9)
      clear hb9
      go_wp2
      go_ret
      exact ⟨rfl, H9.out⟩
    have h6' : ¬ (500 : Int) < n2 := by omega
    by_cases h7 : gen < 1
    · go_wp2_with fail
      refine (QW.out _).mono ?_
      rintro e w9 ⟨rfl, hb9⟩
      have H9 := Lib.hid (bthen HB.out.2.2 hb9)
      clear hb9
      go_wp2
      go_ret
      exact ⟨rfl, H9.out⟩

    by_cases h8 : 549755813888 < gen
    · go_wp2_with fail
      refine (QW.out _).mono ?_
      rintro e w9 ⟨rfl, hb9⟩
      have H9 := Lib.hid (bthen HB.out.2.2 hb9)
      clear hb9
      go_wp2
      go_ret
      exact ⟨rfl, H9.out⟩

    obtain ⟨n, P, M⟩ := msr_of HLi.out.1
    have hP9 := M.little HLi.out.2.1 HLi.out.2.2.1
    have HM := Lib.hid (And.intro M hP9)
    have HHk : Hid ((((conv + seq).toNat : Nat) : Int) = conv + seq) := Lib.hid (by have h1 := M.ok.1; have h2 := M.ok.2.1; omega)
    clear M hP9
    have HR1 := Lib.hid (head_yes (gen := gen) (epoch := 3) (sq := 4) (P := P) (by omega) (by decide) (by decide) (by have := HM.out.2; omega))
    have HR2 := Lib.hid (head_yes (gen := gen + 1) (epoch := 3) (sq := 5) (P := P) (by omega) (by decide) (by decide) (by have := HM.out.2; omega))
    have HH1 := Lib.hid (lw_head HM.out.1 gen 3 4)
    have HH2 := Lib.hid (lw_head HM.out.1 (gen + 1) 3 5)
    have HG1 : Hid ((hdM gen 3 4 (P : Int)).gen = gen) := Lib.hid rfl
    have HG2 : Hid ((hdM (gen + 1) 3 5 (P : Int)).gen = gen + 1) := Lib.hid rfl
    have HNE : Hid (msEq (hdM (gen + 1) 3 5 (P : Int)) (hdM gen 3 4 (P : Int)) = false ∧ msEq (hdM gen 3 4 (P : Int)) (hdM (gen + 1) 3 5 (P : Int)) = false) := Lib.hid ⟨by
      rw [← Bool.not_eq_true, msEq_iff]; intro h; injection h with _ h; omega, by
      rw [← Bool.not_eq_true, msEq_iff]; intro h; injection h with _ h; omega⟩
    generalize hdM gen 3 4 (P : Int) = m1 at HR1 HH1 HG1 HNE
    generalize hdM (gen + 1) 3 5 (P : Int) = m2 at HR2 HH2 HG2 HNE
    have ht1 := tabOk_of (n := n) HX1.out.2.1
    have ht2 := tabOk_of (n := n) HX2.out.2.1
    have HT1 := Lib.hid fun (A : Option Addr) (c : Nat) (W : World) (hr : Rd W W.heap.size A (u32s xs1)) => lw_table HM.out.1 n1 c A xs1 W HX1.out.1 HX1.out.2.1 hr
    have HT2 := Lib.hid fun (A : Option Addr) (c : Nat) (W : World) (hr : Rd W W.heap.size A (u32s xs2)) => lw_table HM.out.1 n2 c A xs2 W HX2.out.1 HX2.out.2.1 hr
    generalize tabY n xs1 = ys1 at ht1 HT1
    generalize tabY n xs2 = ys2 at ht2 HT2
    have sd0 := sd_new (k := (conv + seq).toNat) HM.out.1 HHk.out
    obtain ⟨D1, e1, sd1, _, _, _, q1, q2⟩ := turn_core sd0 (by have := HM.out.2; omega) HM.out.1.hP HM.out.1.n4 HR1.out.1 HR1.out.2 ht1 (older_new HM.out.1.hP) (by rw [HG1.out]; omega)
    have hLC : ∀ keep : List Int, ∀ soft0 tear : Int, Sd ((0 + P + 4) + P + 6) P (crashD (ckW (armD D1 (1 + arm)) m2 ys2 P).2 keep soft0 tear) ∧
        (pickS (crashD (ckW (armD D1 (1 + arm)) m2 ys2 P).2 keep soft0 tear) n P = some (m2, ys2) ∨ (pickS (crashD (ckW (armD D1 (1 + arm)) m2 ys2 P).2 keep soft0 tear) n P = some (m1, ys1) ∧ (ckW (armD D1 (1 + arm)) m2 ys2 P).1 ≠ 0)) := fun keep soft0 tear =>
      lasts_core sd1 (by have := HM.out.2; omega) HM.out.1.hP HM.out.1.n4 HR1.out.1 HR1.out.2 ht1 HR2.out.1 HR2.out.2 ht2 (by rw [HG1.out, HG2.out]) q1 (by
        rw [HG2.out, q2 ((gen + 1) % 2) (by omega) (by rw [HG1.out]; omega)]
        exact reg_new rfl (fun _ _ => rfl)) (by omega) (w64 (by omega) (by omega))
    have HSD0 := Lib.hid sd0
    have HSD1 := Lib.hid sd1
    have HSD2 := Lib.hid (armD_ok (n := 1 + arm) (w64 (by omega) (by omega)) sd1.n)
    have HLC := Lib.hid (hLC keep soft0 tear)
    have HN2 : Hid (DvN ((0 + P + 4) + P + 4) (ckW (armD D1 (1 + arm)) m2 ys2 P).2) := Lib.hid (ckW_keeps (armD_ok (w64 (by omega) (by omega)) sd1.n) (od_arm _ sd1.od) (by have := HM.out.2; omega) (by rw [← HM.out.1.hP]; exact ht2.len)).1
    have HE1 := Lib.hid e1
    have HNar1 := Lib.hid ht1.nar
    have HNar2 := Lib.hid ht2.nar
    have HTk1 := Lib.hid (show (ys1.take n).length = n by have := ht1.len; have := Tbl.pages_up n; simp; omega)
    have HTk2 := Lib.hid (show (ys2.take n).length = n by have := ht2.len; have := Tbl.pages_up n; simp; omega)
    have HNm : Hid (n ≤ maxLen) := Lib.hid (by have := HM.out.1.n4; unfold maxLen; omega)
    clear sd0 e1 sd1 q1 q2 hLC ht1 ht2
    generalize hD0 : newD conv soft seq size opn (conv + seq).toNat = D0 at HSD0 HE1
    generalize hR2 : ckW (armD D1 (1 + arm)) m2 ys2 P = R2 at HLC HN2
    obtain ⟨e2, D3⟩ := R2
    simp only at HLC HN2
    have HD0 := Lib.hid hD0
    have HE2 := Lib.hid hR2
    clear hD0 hR2
    have c0 : wb.cell? ⟨w.heap.size, 0, none⟩ = some (.int .i64 conv) := HB.out.1.cell 0
    have c1 : wb.cell? ⟨w.heap.size, 1, none⟩ = some (.int .i64 soft) := HB.out.1.cell 1
    have c2 : wb.cell? ⟨w.heap.size, 2, none⟩ = some (.int .i64 seq) := HB.out.1.cell 2
    have c3 : wb.cell? ⟨w.heap.size, 3, none⟩ = some (.int .i64 size) := HB.out.1.cell 3
    have c4 : wb.cell? ⟨w.heap.size, 4, none⟩ = some (.int .i64 opn) := HB.out.1.cell 4
    go_wp2_with fail
    refine (lw_new HM.out.1 (w := w) (X := [bx1, w.heap.size]) HB.out.1 HB.out.2.2 (by have h1 := HB.out.1.lt; have h2 := HB.out.2.1.lt; intro b hb; simp at hb; omega) (by simp)).mono ?_
    rintro e w3 ⟨d, rfl, hL, hb3⟩
    rw [HD0.out] at hL
    have L3 := Lib.hid hL
    have W3 := Lib.hid (HB.out.2.1.on hb3)
    clear hL hb3 HB c0 c1 c2 c3 c4
    obtain ⟨c0, c1, c2, c3, c4⟩ := L3.out.cells
    go_wp2_with fail
    refine (HT1.out A1 cp1 _ ((HX1.out.2.2.below L3.out.dv.2.1).more L3.out.dv.2.1.size)).mono ?_
    rintro e w4 ⟨t1, g1, h1, ds1, rfl, hT, hbd, b4⟩
    have L4 := Lib.hid (L3.out.more b4 [t1, g1, h1] hbd)
    have W4 := Lib.hid (W3.out.on b4)
    have T4 := Lib.hid hT
    clear hT hbd b4 L3 W3 c0 c1 c2 c3 c4
    obtain ⟨c0, c1, c2, c3, c4⟩ := L4.out.cells
    go_wp2_with fail
    refine (HT2.out A2 cp2 _ ((HX2.out.2.2.below L4.out.dv.2.1).more L4.out.dv.2.1.size)).mono ?_
    rintro e w5 ⟨t2, g2, h2, ds2, rfl, hT, hbd, b5⟩
    have L5 := Lib.hid (L4.out.more b5 [t2, g2, h2] hbd)
    have W5 := Lib.hid (W4.out.on b5)
    have T5 := Lib.hid (T4.out.on b5)
    have U5 := Lib.hid hT
    clear hT hbd b5 L4 W4 T4 c0 c1 c2 c3 c4
    go_wp2_with fail
    refine wp_region_held_drew (S := (fun w' => w'.cell? ⟨w.heap.size, 0, none⟩ = some (.int .i64 conv) ∧ w'.cell? ⟨w.heap.size, 1, none⟩ = some (.int .i64 soft) ∧ w'.cell? ⟨w.heap.size, 2, none⟩ = some (.int .i64 seq) ∧ w'.cell? ⟨w.heap.size, 3, none⟩ = some (.int .i64 size) ∧ w'.cell? ⟨w.heap.size, 4, none⟩ = some (.int .i64 opn))) (by kernel_rfl) ((L5.out.on (Below.refl _ _).drew).cells) (fun hHeld => ?_)
    refine wpAnyH_take (i := 0) (oi := ⟨some 56, .move _, _, _, _, _⟩) (v := ?v101) rfl (by kernel_rfl) (by kernel_rfl) (by kernel_rfl) (fun _ _ _ h => h) (Or.inl ⟨by rfl, ?hy101⟩) (by assumption) ?rest101
    case hy101 =>
      intro w hSw

      go_simp
      try with_reducible rfl
    try simp only [Act.put, List.setIfInBounds_toArray, List.set_cons_zero, List.set_cons_succ]
    refine wpAnyH_take (i := 1) (oi := ⟨some 57, .load _ _, _, _, _, _⟩) (v := ?v102) rfl (by kernel_rfl) (by kernel_rfl) (by kernel_rfl) (fun _ _ _ h => h) (Or.inl ⟨by rfl, ?hy102⟩) (by assumption) ?rest102
    case hy102 =>
      intro w hSw
      obtain ⟨hS0, hS1, hS2, hS3, hS4⟩ := hSw
      go_simp
      try with_reducible rfl
    try simp only [Act.put, List.setIfInBounds_toArray, List.set_cons_zero, List.set_cons_succ]
    refine wpAnyH_take (i := 2) (oi := ⟨some 58, .load _ _, _, _, _, _⟩) (v := ?v103) rfl (by kernel_rfl) (by kernel_rfl) (by kernel_rfl) (fun _ _ _ h => h) (Or.inl ⟨by rfl, ?hy103⟩) (by assumption) ?rest103
    case hy103 =>
      intro w hSw
      obtain ⟨hS0, hS1, hS2, hS3, hS4⟩ := hSw
      go_simp
      try with_reducible rfl
    try simp only [Act.put, List.setIfInBounds_toArray, List.set_cons_zero, List.set_cons_succ]
    refine wpAnyH_take (i := 3) (oi := ⟨some 59, .move _, _, _, _, _⟩) (v := ?v104) rfl (by kernel_rfl) (by kernel_rfl) (by kernel_rfl) (fun _ _ _ h => h) (Or.inl ⟨by rfl, ?hy104⟩) (by assumption) ?rest104
    case hy104 =>
      intro w hSw

      go_simp
      try with_reducible rfl
    try simp only [Act.put, List.setIfInBounds_toArray, List.set_cons_zero, List.set_cons_succ]
    refine wpAnyH_take (i := 5) (oi := ⟨some 61, .move _, _, _, _, _⟩) (v := ?v105) rfl (by kernel_rfl) (by kernel_rfl) (by kernel_rfl) (fun _ _ _ h => h) (Or.inl ⟨by rfl, ?hy105⟩) (by assumption) ?rest105
    case hy105 =>
      intro w hSw

      go_simp
      try with_reducible rfl
    try simp only [Act.put, List.setIfInBounds_toArray, List.set_cons_zero, List.set_cons_succ]
    refine wpAnyH_ready (rs := [4]) (by kernel_rfl) (by simp) ?_
    refine AllReadyH.cons (o := ⟨some 60, .call _, _, _, _, _⟩) rfl (fun K hK => ?_) AllReadyH.nil
    go_simp
    refine (HH1.out _).mono ?_
    rintro e y1 ⟨rfl, b1⟩
    have K1 := bthen (Below.refl _ _).drew b1
    have L6 := Lib.hid (L5.out.on K1)
    have W6 := Lib.hid (W5.out.on K1)
    have T6 := Lib.hid (T5.out.on K1)
    have U6 := Lib.hid (U5.out.on K1)
    clear K1 b1
    go_wp2_with fail
    clear hHeld
    refine hK.out _ _ (L6.out.cells) (fun hHeld => ?_)
    clear hK K
    try simp only [Act.put, List.setIfInBounds_toArray, List.set_cons_zero, List.set_cons_succ]
    refine wpAnyH_ready (rs := [6]) (by kernel_rfl) (by simp) ?_
    refine AllReadyH.cons (o := ⟨some 62, .call _, _, _, _, _⟩) rfl (fun K hK => ?_) AllReadyH.nil
    go_simp
    refine (lw_write HM.out.1 L6.out m1 HSD0.out.n (by have := HM.out.2; omega) T6.out (by simp) HNar1.out HR1.out.2).mono ?_
    rintro e w7 ⟨rfl, hl, hF⟩
    rw [HE1.out] at hl ⊢
    have L7 := Lib.hid hl
    have W7 := Lib.hid (hF.box W6.out (by simp))
    have T7 := Lib.hid (T6.out.tx hF (by simp))
    have U7 := Lib.hid (U6.out.tx hF (by simp))
    clear hl hF
    go_wp2_with fail
    clear hHeld
    refine hK.out _ _ (L7.out.cells) (fun hHeld => ?_)
    clear hK K
    try simp only [Act.put, List.setIfInBounds_toArray, List.set_cons_zero, List.set_cons_succ]
    refine wpAnyH_take (i := 7) (oi := ⟨some 63, .binOp _ _ _ _ _, _, _, _, _⟩) (v := ?v106) rfl (by kernel_rfl) (by kernel_rfl) (by kernel_rfl) (fun _ _ _ h => h) (Or.inl ⟨by rfl, ?hy106⟩) (by assumption) ?rest106
    case hy106 =>
      intro w hSw

      go_simp
      try with_reducible rfl
    try simp only [Act.put, List.setIfInBounds_toArray, List.set_cons_zero, List.set_cons_succ]
    refine wpAnyH_done (by kernel_rfl) ?_ _
    clear hHeld L5 W5 T5 U5 L6 W6 T6 U6
    have hw1 : IntKind.i64.wrap (1 + arm) = 1 + arm := IntWalk.i64_in _ (by omega)
    have hw2 : IntKind.i64.wrap (gen + 1) = gen + 1 := IntWalk.i64_in _ (by omega)
    go_wp2_with fail
    refine (arm_any (1 + arm) L7.out.dv.1).mono ?_
    rintro e w8 ⟨rfl, hI, hF⟩
    have L8 := Lib.hid (L7.out.put hI hF)
    have W8 := Lib.hid (hF.box W7.out (by simp))
    have T8 := Lib.hid (T7.out.tx hF (by simp))
    have U8 := Lib.hid (U7.out.tx hF (by simp))
    clear hI hF L7 W7 T7 U7
    go_wp2_with fail
    refine wp_region_held_drew (S := (fun w' => w'.cell? ⟨w.heap.size, 0, none⟩ = some (.int .i64 conv) ∧ w'.cell? ⟨w.heap.size, 1, none⟩ = some (.int .i64 soft) ∧ w'.cell? ⟨w.heap.size, 2, none⟩ = some (.int .i64 seq) ∧ w'.cell? ⟨w.heap.size, 3, none⟩ = some (.int .i64 size) ∧ w'.cell? ⟨w.heap.size, 4, none⟩ = some (.int .i64 opn))) (by kernel_rfl) ((L8.out.on (Below.refl _ _).drew).cells) (fun hHeld => ?_)
    refine wpAnyH_take (i := 0) (oi := ⟨some 69, .move _, _, _, _, _⟩) (v := ?v107) rfl (by kernel_rfl) (by kernel_rfl) (by kernel_rfl) (fun _ _ _ h => h) (Or.inl ⟨by rfl, ?hy107⟩) (by assumption) ?rest107
    case hy107 =>
      intro w hSw

      go_simp
      try with_reducible rfl
    try simp only [Act.put, List.setIfInBounds_toArray, List.set_cons_zero, List.set_cons_succ]
    refine wpAnyH_take (i := 1) (oi := ⟨some 70, .load _ _, _, _, _, _⟩) (v := ?v108) rfl (by kernel_rfl) (by kernel_rfl) (by kernel_rfl) (fun _ _ _ h => h) (Or.inl ⟨by rfl, ?hy108⟩) (by assumption) ?rest108
    case hy108 =>
      intro w hSw
      obtain ⟨hS0, hS1, hS2, hS3, hS4⟩ := hSw
      go_simp
      try with_reducible rfl
    try simp only [Act.put, List.setIfInBounds_toArray, List.set_cons_zero, List.set_cons_succ]
    refine wpAnyH_take (i := 2) (oi := ⟨some 71, .load _ _, _, _, _, _⟩) (v := ?v109) rfl (by kernel_rfl) (by kernel_rfl) (by kernel_rfl) (fun _ _ _ h => h) (Or.inl ⟨by rfl, ?hy109⟩) (by assumption) ?rest109
    case hy109 =>
      intro w hSw
      obtain ⟨hS0, hS1, hS2, hS3, hS4⟩ := hSw
      go_simp
      try with_reducible rfl
    try simp only [Act.put, List.setIfInBounds_toArray, List.set_cons_zero, List.set_cons_succ]
    refine wpAnyH_take (i := 3) (oi := ⟨some 72, .move _, _, _, _, _⟩) (v := ?v110) rfl (by kernel_rfl) (by kernel_rfl) (by kernel_rfl) (fun _ _ _ h => h) (Or.inl ⟨by rfl, ?hy110⟩) (by assumption) ?rest110
    case hy110 =>
      intro w hSw

      go_simp
      try with_reducible rfl
    try simp only [Act.put, List.setIfInBounds_toArray, List.set_cons_zero, List.set_cons_succ]
    refine wpAnyH_take (i := 4) (oi := ⟨some 73, .binOp _ _ _ _ _, _, _, _, _⟩) (v := ?v111) rfl (by kernel_rfl) (by kernel_rfl) (by kernel_rfl) (fun _ _ _ h => h) (Or.inl ⟨by rfl, ?hy111⟩) (by assumption) ?rest111
    case hy111 =>
      intro w hSw

      go_simp
      try with_reducible rfl
    try simp only [Act.put, List.setIfInBounds_toArray, List.set_cons_zero, List.set_cons_succ]
    refine wpAnyH_take (i := 6) (oi := ⟨some 75, .move _, _, _, _, _⟩) (v := ?v112) rfl (by kernel_rfl) (by kernel_rfl) (by kernel_rfl) (fun _ _ _ h => h) (Or.inl ⟨by rfl, ?hy112⟩) (by assumption) ?rest112
    case hy112 =>
      intro w hSw

      go_simp
      try with_reducible rfl
    try simp only [Act.put, List.setIfInBounds_toArray, List.set_cons_zero, List.set_cons_succ]
    refine wpAnyH_ready (rs := [5]) (by kernel_rfl) (by simp) ?_
    refine AllReadyH.cons (o := ⟨some 74, .call _, _, _, _, _⟩) rfl (fun K hK => ?_) AllReadyH.nil
    go_simp
    refine (HH2.out _).mono ?_
    rintro e y1 ⟨rfl, b1⟩
    have K1 := bthen (Below.refl _ _).drew b1
    have L9 := Lib.hid (L8.out.on K1)
    have W9 := Lib.hid (W8.out.on K1)
    have T9 := Lib.hid (T8.out.on K1)
    have U9 := Lib.hid (U8.out.on K1)
    clear K1 b1
    go_wp2_with fail
    clear hHeld
    refine hK.out _ _ (L9.out.cells) (fun hHeld => ?_)
    clear hK K
    try simp only [Act.put, List.setIfInBounds_toArray, List.set_cons_zero, List.set_cons_succ]
    refine wpAnyH_ready (rs := [7]) (by kernel_rfl) (by simp) ?_
    refine AllReadyH.cons (o := ⟨some 76, .call _, _, _, _, _⟩) rfl (fun K hK => ?_) AllReadyH.nil
    go_simp
    refine (lw_write HM.out.1 L9.out m2 HSD2.out (by have := HM.out.2; omega) U9.out (by simp) HNar2.out HR2.out.2).mono ?_
    rintro e wA ⟨rfl, hl, hF⟩
    rw [HE2.out] at hl ⊢
    have LA0 := Lib.hid hl
    have WA := Lib.hid (hF.box W9.out (by simp))
    have TA := Lib.hid (T9.out.tx hF (by simp))
    have UA := Lib.hid (U9.out.tx hF (by simp))
    clear hl hF
    go_wp2_with fail
    clear hHeld
    refine hK.out _ _ (LA0.out.cells) (fun hHeld => ?_)
    clear hK K
    try simp only [Act.put, List.setIfInBounds_toArray, List.set_cons_zero, List.set_cons_succ]
    refine wpAnyH_take (i := 8) (oi := ⟨some 16, .assign _, _, _, _, _⟩) (v := ?v113) rfl (by kernel_rfl) (by kernel_rfl) (by kernel_rfl) (fun _ _ _ h => h) (Or.inl ⟨by rfl, ?hy113⟩) (by assumption) ?rest113
    case hy113 =>
      intro w hSw

      go_simp
      try with_reducible rfl
    try simp only [Act.put, List.setIfInBounds_toArray, List.set_cons_zero, List.set_cons_succ]
    refine wpAnyH_done (by kernel_rfl) ?_ _
    clear hHeld L8 W8 T8 U8 L9 W9 T9 U9
    have cw0 := WA.out.cell 0
    have cw1 := WA.out.cell 1
    have cw2 := WA.out.cell 2
    simp only [List.getElem?_cons_zero, List.getElem?_cons_succ] at cw0 cw1 cw2
    go_wp2_with fail
    refine (crash_any (TX w.heap.size ([t2, g2, h2] ++ ([t1, g1, h1] ++ [bx1, w.heap.size]))) D3 keepA kn kc keep soft0 tear LA0.out.dv.hT HN2.out.ok LA0.out.dv.1 ((HKp.out.1.below LA0.out.dv.2.1).more LA0.out.dv.2.1.size) HKp.out.2.1 HKp.out.2.2.1 HKp.out.2.2.2.1 HKp.out.2.2.2.2 (keep_far HKp.out.1 fun k hk => hk.1)).mono ?_
    rintro e wB ⟨rfl, hI, hF⟩
    have LB := Lib.hid (LA0.out.put hI hF)
    have TB := Lib.hid (TA.out.tx hF (by simp))
    have UB := Lib.hid (UA.out.tx hF (by simp))
    clear hI hF LA0 WA TA UA cw0 cw1 cw2
    generalize crashD D3 keep soft0 tear = D4 at *
    obtain ⟨c0, c1, c2, c3, c4⟩ := LB.out.cells
    obtain ⟨hsd, hlc⟩ := HLC.out
    have HSD4 := Lib.hid hsd
    clear HLC hsd HN2 HE2
    obtain ⟨m6, hm6, hsz6⟩ := big_size (P := Try.prog) (t := 26) (s := 6) (by kernel_rfl)
    have hm60 : ¬ m6 = 0 := by omega
    have HM6 := Lib.hid hm6
    clear hm6
    have LA := Lib.hid fun (W : World) (b : Nat) (x : Mast.Mst) (h : Box W b 26 (mcs x)) => big_load0 Try.prog b 0 (mcs x) m6 (by rw [mcs_length, HM6.out]) W h.range0
    have hgd := guard_mast
    rcases hlc with hpk | ⟨hpk, hne⟩
    · have HPk := Lib.hid hpk
      clear hpk
      go_wp2_with fail
      refine (lw_pick HM.out.1 LB.out HSD4.out.n.ok HSD4.out.od HSD4.out.up HSD4.out.so).mono ?_
      rw [HPk.out]
      rintro e wC ⟨hp, hF⟩
      unfold LwPk at hp
      obtain ⟨dt, gt, ht, rfl, htb, hL⟩ := hp
      have LC := Lib.hid hL
      have VC := Lib.hid htb
      have TC := Lib.hid (TB.out.tx hF (by simp))
      have UC := Lib.hid (UB.out.tx hF (by simp))
      clear hL hF htb c0 c1 c2 c3 c4 LB TB UB
      simp only at VC
      go_wp2_with (first
        | ((with_reducible refine wpList_ms_alloc (o := ⟨some 17, .alloc _, _, _, _, _⟩) rfl rfl ?_); intro wD xD hBD hsD)
        | ((with_reducible refine wpList_ms_store (o := ⟨none, .store _ (.tmp 17) _, _, _, _, _⟩) rfl _ _ rfl wC.heap.size m2 Mast.m0 rfl rfl xD ?_); go_loud (intro wE xE hgE hsE; have KE := below_stored hBD hgE hBD.size (Nat.le_refl _); have LE := Lib.hid (LC.out.more KE [wC.heap.size] (by have h1 := hBD.size; have h2 := xE.lt; intro b hb; simp at hb; omega)); have BE := Lib.hid xE; have VE := Lib.hid (VC.out.on KE); have TE := Lib.hid (TC.out.on KE); have UE := Lib.hid (UC.out.on KE); clear xD hBD hsD xE hgE hsE KE LC VC TC UC; generalize wC.heap.size = b17 at *))
        | fail)
      have hq := fun w' => equal_mast w' m2 m1
      have hq2 := fun w' => equal_mast w' m2 m2
      rw [HNE.out.1] at hq
      rw [(msEq_iff m2 m2).2 rfl] at hq2
      have HTk := HTk2
      refine wp_region_held_drew (S := (fun w' => Box w' b17 26 (mcs m2) ∧ w'.cell? ⟨w.heap.size, 0, none⟩ = some (.int .i64 conv) ∧ w'.cell? ⟨w.heap.size, 1, none⟩ = some (.int .i64 soft) ∧ w'.cell? ⟨w.heap.size, 2, none⟩ = some (.int .i64 seq) ∧ w'.cell? ⟨w.heap.size, 3, none⟩ = some (.int .i64 size) ∧ w'.cell? ⟨w.heap.size, 4, none⟩ = some (.int .i64 opn))) (by kernel_rfl) (⟨BE.out.on (Below.refl _ _).drew, (LE.out.on (Below.refl _ _).drew).cells⟩) (fun hHeld => ?_)
      refine wpAnyH_take (i := 0) (oi := ⟨some 93, .load _ _, _, _, _, _⟩) (v := ?v114) rfl (by kernel_rfl) (by kernel_rfl) (by kernel_rfl) (fun _ _ _ h => h) (Or.inl ⟨by rfl, ?hy114⟩) (by assumption) ?rest114
      case hy114 =>
        intro w hSw
        have ca := LA.out _ _ _ hSw.1
        go_simp
        try with_reducible rfl
      try simp only [Act.put, List.setIfInBounds_toArray, List.set_cons_zero, List.set_cons_succ]
      refine wpAnyH_take (i := 1) (oi := ⟨some 94, .load _ _, _, _, _, _⟩) (v := ?v115) rfl (by kernel_rfl) (by kernel_rfl) (by kernel_rfl) (fun _ _ _ h => h) (Or.inl ⟨by rfl, ?hy115⟩) (by assumption) ?rest115
      case hy115 =>
        intro w hSw
        obtain ⟨_, hS0, hS1, hS2, hS3, hS4⟩ := hSw
        go_simp
        try with_reducible rfl
      try simp only [Act.put, List.setIfInBounds_toArray, List.set_cons_zero, List.set_cons_succ]
      refine wpAnyH_take (i := 2) (oi := ⟨some 95, .move _, _, _, _, _⟩) (v := ?v116) rfl (by kernel_rfl) (by kernel_rfl) (by kernel_rfl) (fun _ _ _ h => h) (Or.inl ⟨by rfl, ?hy116⟩) (by assumption) ?rest116
      case hy116 =>
        intro w hSw

        go_simp
        try with_reducible rfl
      try simp only [Act.put, List.setIfInBounds_toArray, List.set_cons_zero, List.set_cons_succ]
      refine wpAnyH_ready (rs := [3]) (by kernel_rfl) (by simp) ?_
      refine AllReadyH.cons (o := ⟨some 96, .call _, _, _, _, _⟩) rfl (fun K hK => ?_) AllReadyH.nil
      go_simp
      refine (HH1.out _).mono ?_
      rintro e y1 ⟨rfl, b1⟩
      have K1 := bthen (Below.refl _ _).drew b1
      have L1 := Lib.hid (LE.out.on K1)
      have B1 := Lib.hid (BE.out.on K1)
      have VE1 := Lib.hid (VE.out.on K1)
      have UE1 := Lib.hid (UE.out.on K1)
      clear K1 b1
      go_wp2_with fail
      clear hHeld
      refine hK.out _ _ (⟨B1.out, L1.out.cells⟩) (fun hHeld => ?_)
      clear hK K
      try simp only [Act.put, List.setIfInBounds_toArray, List.set_cons_zero, List.set_cons_succ]
      refine wpAnyH_take (i := 4) (oi := ⟨some 97, .binOp _ _ _ _ _, _, _, _, _⟩) (v := ?v117) rfl (by kernel_rfl) (by kernel_rfl) (by kernel_rfl) (fun _ _ _ h => h) (Or.inl ⟨by rfl, ?hy117⟩) (by assumption) ?rest117
      case hy117 =>
        intro w hSw

        go_simp
        try with_reducible rfl
      try simp only [Act.put, List.setIfInBounds_toArray, List.set_cons_zero, List.set_cons_succ]
      refine wpAnyH_take (i := 5) (oi := ⟨some 98, .move _, _, _, _, _⟩) (v := ?v118) rfl (by kernel_rfl) (by kernel_rfl) (by kernel_rfl) (fun _ _ _ h => h) (Or.inl ⟨by rfl, ?hy118⟩) (by assumption) ?rest118
      case hy118 =>
        intro w hSw

        go_simp
        try with_reducible rfl
      try simp only [Act.put, List.setIfInBounds_toArray, List.set_cons_zero, List.set_cons_succ]
      refine wpAnyH_take (i := 6) (oi := ⟨some 99, .move _, _, _, _, _⟩) (v := undef) rfl (by kernel_rfl) (by kernel_rfl) (by kernel_rfl) (fun _ _ _ h => h) (Or.inr ⟨by rfl, rfl⟩) (by assumption) ?rest119
      try simp only [Act.put, List.setIfInBounds_toArray, List.set_cons_zero, List.set_cons_succ]
      refine wpAnyH_take (i := 7) (oi := ⟨some 100, .call _, _, _, _, _⟩) (v := undef) rfl (by kernel_rfl) (by kernel_rfl) (by kernel_rfl) (fun _ _ _ h => h) (Or.inr ⟨by rfl, rfl⟩) (by assumption) ?rest120
      try simp only [Act.put, List.setIfInBounds_toArray, List.set_cons_zero, List.set_cons_succ]
      refine wpAnyH_take (i := 8) (oi := ⟨some 101, .move _, _, _, _, _⟩) (v := undef) rfl (by kernel_rfl) (by kernel_rfl) (by kernel_rfl) (fun _ _ _ h => h) (Or.inr ⟨by rfl, rfl⟩) (by assumption) ?rest121
      try simp only [Act.put, List.setIfInBounds_toArray, List.set_cons_zero, List.set_cons_succ]
      refine wpAnyH_take (i := 9) (oi := ⟨some 102, .call _, _, _, _, _⟩) (v := undef) rfl (by kernel_rfl) (by kernel_rfl) (by kernel_rfl) (fun _ _ _ h => h) (Or.inr ⟨by rfl, rfl⟩) (by assumption) ?rest122
      try simp only [Act.put, List.setIfInBounds_toArray, List.set_cons_zero, List.set_cons_succ]
      refine wpAnyH_take (i := 10) (oi := ⟨some 103, .call _, _, _, _, _⟩) (v := undef) rfl (by kernel_rfl) (by kernel_rfl) (by kernel_rfl) (fun _ _ _ h => h) (Or.inr ⟨by rfl, rfl⟩) (by assumption) ?rest123
      try simp only [Act.put, List.setIfInBounds_toArray, List.set_cons_zero, List.set_cons_succ]
      refine wpAnyH_take (i := 11) (oi := ⟨some 104, .pick _ _ _, _, _, _, _⟩) (v := ?v124) rfl (by kernel_rfl) (by kernel_rfl) (by kernel_rfl) (fun _ _ _ h => h) (Or.inl ⟨by rfl, ?hy124⟩) (by assumption) ?rest124
      case hy124 =>
        intro w hSw

        go_simp
        try with_reducible rfl
      try simp only [Act.put, List.setIfInBounds_toArray, List.set_cons_zero, List.set_cons_succ]
      refine wpAnyH_take (i := 12) (oi := ⟨some 20, .assign _, _, _, _, _⟩) (v := ?v125) rfl (by kernel_rfl) (by kernel_rfl) (by kernel_rfl) (fun _ _ _ h => h) (Or.inl ⟨by rfl, ?hy125⟩) (by assumption) ?rest125
      case hy125 =>
        intro w hSw

        go_simp
        try with_reducible rfl
      try simp only [Act.put, List.setIfInBounds_toArray, List.set_cons_zero, List.set_cons_succ]
      refine wpAnyH_done (by kernel_rfl) ?_ _
      clear LE BE
      have LE := L1
      have BE := B1
      clear L1 B1 hHeld
      clear VE
      have VE := VE1
      clear VE1
      clear UE
      have UE := UE1
      clear UE1
      go_wp2_with fail
      refine wp_region_held_drew (S := (fun w' => Box w' b17 26 (mcs m2) ∧ w'.cell? ⟨w.heap.size, 0, none⟩ = some (.int .i64 conv) ∧ w'.cell? ⟨w.heap.size, 1, none⟩ = some (.int .i64 soft) ∧ w'.cell? ⟨w.heap.size, 2, none⟩ = some (.int .i64 seq) ∧ w'.cell? ⟨w.heap.size, 3, none⟩ = some (.int .i64 size) ∧ w'.cell? ⟨w.heap.size, 4, none⟩ = some (.int .i64 opn))) (by kernel_rfl) (⟨BE.out.on (Below.refl _ _).drew, (LE.out.on (Below.refl _ _).drew).cells⟩) (fun hHeld => ?_)
      refine wpAnyH_take (i := 0) (oi := ⟨some 105, .load _ _, _, _, _, _⟩) (v := ?v126) rfl (by kernel_rfl) (by kernel_rfl) (by kernel_rfl) (fun _ _ _ h => h) (Or.inl ⟨by rfl, ?hy126⟩) (by assumption) ?rest126
      case hy126 =>
        intro w hSw
        have ca := LA.out _ _ _ hSw.1
        go_simp
        try with_reducible rfl
      try simp only [Act.put, List.setIfInBounds_toArray, List.set_cons_zero, List.set_cons_succ]
      refine wpAnyH_take (i := 1) (oi := ⟨some 106, .load _ _, _, _, _, _⟩) (v := ?v127) rfl (by kernel_rfl) (by kernel_rfl) (by kernel_rfl) (fun _ _ _ h => h) (Or.inl ⟨by rfl, ?hy127⟩) (by assumption) ?rest127
      case hy127 =>
        intro w hSw
        obtain ⟨_, hS0, hS1, hS2, hS3, hS4⟩ := hSw
        go_simp
        try with_reducible rfl
      try simp only [Act.put, List.setIfInBounds_toArray, List.set_cons_zero, List.set_cons_succ]
      refine wpAnyH_take (i := 2) (oi := ⟨some 107, .move _, _, _, _, _⟩) (v := ?v128) rfl (by kernel_rfl) (by kernel_rfl) (by kernel_rfl) (fun _ _ _ h => h) (Or.inl ⟨by rfl, ?hy128⟩) (by assumption) ?rest128
      case hy128 =>
        intro w hSw

        go_simp
        try with_reducible rfl
      try simp only [Act.put, List.setIfInBounds_toArray, List.set_cons_zero, List.set_cons_succ]
      refine wpAnyH_take (i := 3) (oi := ⟨some 108, .binOp _ _ _ _ _, _, _, _, _⟩) (v := ?v129) rfl (by kernel_rfl) (by kernel_rfl) (by kernel_rfl) (fun _ _ _ h => h) (Or.inl ⟨by rfl, ?hy129⟩) (by assumption) ?rest129
      case hy129 =>
        intro w hSw

        go_simp
        try with_reducible rfl
      try simp only [Act.put, List.setIfInBounds_toArray, List.set_cons_zero, List.set_cons_succ]
      refine wpAnyH_ready (rs := [4]) (by kernel_rfl) (by simp) ?_
      refine AllReadyH.cons (o := ⟨some 109, .call _, _, _, _, _⟩) rfl (fun K hK => ?_) AllReadyH.nil
      go_simp
      refine (HH2.out _).mono ?_
      rintro e y1 ⟨rfl, b1⟩
      have K1 := bthen (Below.refl _ _).drew b1
      have L1 := Lib.hid (LE.out.on K1)
      have B1 := Lib.hid (BE.out.on K1)
      have V1 := Lib.hid (VE.out.on K1)
      have U1 := Lib.hid (UE.out.on K1)
      clear K1 b1
      go_wp2_with fail
      clear hHeld
      refine hK.out _ _ (⟨B1.out, L1.out.cells⟩) (fun hHeld => ?_)
      clear hK K
      try simp only [Act.put, List.setIfInBounds_toArray, List.set_cons_zero, List.set_cons_succ]
      refine wpAnyH_take (i := 5) (oi := ⟨some 110, .binOp _ _ _ _ _, _, _, _, _⟩) (v := ?v130) rfl (by kernel_rfl) (by kernel_rfl) (by kernel_rfl) (fun _ _ _ h => h) (Or.inl ⟨by rfl, ?hy130⟩) (by assumption) ?rest130
      case hy130 =>
        intro w hSw

        go_simp
        try with_reducible rfl
      try simp only [Act.put, List.setIfInBounds_toArray, List.set_cons_zero, List.set_cons_succ]
      refine wpAnyH_take (i := 6) (oi := ⟨some 111, .move _, _, _, _, _⟩) (v := ?v131) rfl (by kernel_rfl) (by kernel_rfl) (by kernel_rfl) (fun _ _ _ h => h) (Or.inl ⟨by rfl, ?hy131⟩) (by assumption) ?rest131
      case hy131 =>
        intro w hSw

        go_simp
        try with_reducible rfl
      try simp only [Act.put, List.setIfInBounds_toArray, List.set_cons_zero, List.set_cons_succ]
      refine wpAnyH_take (i := 7) (oi := ⟨some 112, .move _, _, _, _, _⟩) (v := ?v132) rfl (by kernel_rfl) (by kernel_rfl) (by kernel_rfl) (fun _ _ _ h => h) (Or.inl ⟨by rfl, ?hy132⟩) (by assumption) ?rest132
      case hy132 =>
        intro w hSw

        go_simp
        try with_reducible rfl
      try simp only [Act.put, List.setIfInBounds_toArray, List.set_cons_zero, List.set_cons_succ]
      refine wpAnyH_take (i := 9) (oi := ⟨some 114, .move _, _, _, _, _⟩) (v := ?v133) rfl (by kernel_rfl) (by kernel_rfl) (by kernel_rfl) (fun _ _ _ h => h) (Or.inl ⟨by rfl, ?hy133⟩) (by assumption) ?rest133
      case hy133 =>
        intro w hSw

        go_simp
        try with_reducible rfl
      try simp only [Act.put, List.setIfInBounds_toArray, List.set_cons_zero, List.set_cons_succ]
      refine wpAnyH_ready (rs := [8]) (by kernel_rfl) (by simp) ?_
      refine AllReadyH.cons (o := ⟨some 113, .call _, _, _, _, _⟩) rfl (fun K hK => ?_) AllReadyH.nil
      go_simp
      refine (tplaces_any y1 V1.out).mono ?_
      rintro e y2 ⟨z1, rfl, zb1, zl1, b2⟩
      have L2 := Lib.hid (L1.out.on b2)
      have B2 := Lib.hid (B1.out.on b2)
      have U2 := Lib.hid (U1.out.on b2)
      have Z2 := Lib.hid zb1
      clear zb1 zl1 b2 L1 B1 U1 V1
      go_wp2_with fail
      clear hHeld
      refine hK.out _ _ (⟨B2.out, L2.out.cells⟩) (fun hHeld => ?_)
      clear hK K
      try simp only [Act.put, List.setIfInBounds_toArray, List.set_cons_zero, List.set_cons_succ]
      refine wpAnyH_ready (rs := [10]) (by kernel_rfl) (by simp) ?_
      refine AllReadyH.cons (o := ⟨some 115, .call _, _, _, _, _⟩) rfl (fun K hK => ?_) AllReadyH.nil
      go_simp
      refine (tplaces_any y2 U2.out).mono ?_
      rintro e y3 ⟨z2, rfl, zb2, zl2, b3⟩
      have L3 := Lib.hid (L2.out.on b3)
      have B3 := Lib.hid (B2.out.on b3)
      have Z3 := Lib.hid (Z2.out.on b3)
      have Y3 := Lib.hid zb2
      clear zb2 zl2 b3 L2 B2 U2 Z2
      go_wp2_with fail
      clear hHeld
      refine hK.out _ _ (⟨B3.out, L3.out.cells⟩) (fun hHeld => ?_)
      clear hK K
      try simp only [Act.put, List.setIfInBounds_toArray, List.set_cons_zero, List.set_cons_succ]
      refine wpAnyH_ready (rs := [11]) (by kernel_rfl) (by simp) ?_
      refine AllReadyH.cons (o := ⟨some 116, .call _, _, _, _, _⟩) rfl (fun K hK => ?_) AllReadyH.nil
      go_simp
      refine (isame_any (some ⟨z1, 0, none⟩) (some ⟨z2, 0, none⟩) n n n n y3 HNm.out HNm.out _ _ HTk.out HTk.out y3.heap.size (Z3.out.rd Z3.out.lt) (Y3.out.rd Y3.out.lt)).mono ?_
      rintro e y4 ⟨rfl, q4, rfl⟩
      have L4 := Lib.hid (L3.out.on (below_draws (Below.refl _ _) q4))
      have B4 := Lib.hid (B3.out.on (below_draws (Below.refl _ _) q4))
      clear L3 B3 Z3 Y3
      rw [beq_self_eq_true]
      go_wp2_with fail
      clear hHeld
      refine hK.out _ _ (⟨B4.out, L4.out.cells⟩) (fun hHeld => ?_)
      clear hK K
      try simp only [Act.put, List.setIfInBounds_toArray, List.set_cons_zero, List.set_cons_succ]
      refine wpAnyH_take (i := 12) (oi := ⟨some 117, .pick _ _ _, _, _, _, _⟩) (v := ?v134) rfl (by kernel_rfl) (by kernel_rfl) (by kernel_rfl) (fun _ _ _ h => h) (Or.inl ⟨by rfl, ?hy134⟩) (by assumption) ?rest134
      case hy134 =>
        intro w hSw

        go_simp
        try with_reducible rfl
      try simp only [Act.put, List.setIfInBounds_toArray, List.set_cons_zero, List.set_cons_succ]
      refine wpAnyH_take (i := 13) (oi := ⟨some 21, .assign _, _, _, _, _⟩) (v := ?v135) rfl (by kernel_rfl) (by kernel_rfl) (by kernel_rfl) (fun _ _ _ h => h) (Or.inl ⟨by rfl, ?hy135⟩) (by assumption) ?rest135
      case hy135 =>
        intro w hSw

        go_simp
        try with_reducible rfl
      try simp only [Act.put, List.setIfInBounds_toArray, List.set_cons_zero, List.set_cons_succ]
      refine wpAnyH_done (by kernel_rfl) ?_ _
      clear LE BE
      have LE := L4
      have BE := B4
      clear L4 B4 hHeld
      generalize y3.drewN q4 = wG at LE BE ⊢
      have HB9 := Lib.hid LE.out.dv.2.1
      go_wp2
      go_ret
      exact ⟨rfl, HB9.out⟩
    · have hne2 : (e2 != 0) = true := by simp [hne]
      have HPk := Lib.hid hpk
      clear hpk
      go_wp2_with fail
      refine (lw_pick HM.out.1 LB.out HSD4.out.n.ok HSD4.out.od HSD4.out.up HSD4.out.so).mono ?_
      rw [HPk.out]
      rintro e wC ⟨hp, hF⟩
      unfold LwPk at hp
      obtain ⟨dt, gt, ht, rfl, htb, hL⟩ := hp
      have LC := Lib.hid hL
      have VC := Lib.hid htb
      have TC := Lib.hid (TB.out.tx hF (by simp))
      have UC := Lib.hid (UB.out.tx hF (by simp))
      clear hL hF htb c0 c1 c2 c3 c4 LB TB UB
      simp only at VC
      go_wp2_with (first
        | ((with_reducible refine wpList_ms_alloc (o := ⟨some 17, .alloc _, _, _, _, _⟩) rfl rfl ?_); intro wD xD hBD hsD)
        | ((with_reducible refine wpList_ms_store (o := ⟨none, .store _ (.tmp 17) _, _, _, _, _⟩) rfl _ _ rfl wC.heap.size m1 Mast.m0 rfl rfl xD ?_); go_loud (intro wE xE hgE hsE; have KE := below_stored hBD hgE hBD.size (Nat.le_refl _); have LE := Lib.hid (LC.out.more KE [wC.heap.size] (by have h1 := hBD.size; have h2 := xE.lt; intro b hb; simp at hb; omega)); have BE := Lib.hid xE; have VE := Lib.hid (VC.out.on KE); have TE := Lib.hid (TC.out.on KE); have UE := Lib.hid (UC.out.on KE); clear xD hBD hsD xE hgE hsE KE LC VC TC UC; generalize wC.heap.size = b17 at *))
        | fail)
      have hq := fun w' => equal_mast w' m1 m1
      have hq2 := fun w' => equal_mast w' m1 m2
      rw [(msEq_iff m1 m1).2 rfl] at hq
      rw [HNE.out.2] at hq2
      have HTk := HTk1
      refine wp_region_held_drew (S := (fun w' => Box w' b17 26 (mcs m1) ∧ w'.cell? ⟨w.heap.size, 0, none⟩ = some (.int .i64 conv) ∧ w'.cell? ⟨w.heap.size, 1, none⟩ = some (.int .i64 soft) ∧ w'.cell? ⟨w.heap.size, 2, none⟩ = some (.int .i64 seq) ∧ w'.cell? ⟨w.heap.size, 3, none⟩ = some (.int .i64 size) ∧ w'.cell? ⟨w.heap.size, 4, none⟩ = some (.int .i64 opn))) (by kernel_rfl) (⟨BE.out.on (Below.refl _ _).drew, (LE.out.on (Below.refl _ _).drew).cells⟩) (fun hHeld => ?_)
      refine wpAnyH_take (i := 0) (oi := ⟨some 93, .load _ _, _, _, _, _⟩) (v := ?v136) rfl (by kernel_rfl) (by kernel_rfl) (by kernel_rfl) (fun _ _ _ h => h) (Or.inl ⟨by rfl, ?hy136⟩) (by assumption) ?rest136
      case hy136 =>
        intro w hSw
        have ca := LA.out _ _ _ hSw.1
        go_simp
        try with_reducible rfl
      try simp only [Act.put, List.setIfInBounds_toArray, List.set_cons_zero, List.set_cons_succ]
      refine wpAnyH_take (i := 1) (oi := ⟨some 94, .load _ _, _, _, _, _⟩) (v := ?v137) rfl (by kernel_rfl) (by kernel_rfl) (by kernel_rfl) (fun _ _ _ h => h) (Or.inl ⟨by rfl, ?hy137⟩) (by assumption) ?rest137
      case hy137 =>
        intro w hSw
        obtain ⟨_, hS0, hS1, hS2, hS3, hS4⟩ := hSw
        go_simp
        try with_reducible rfl
      try simp only [Act.put, List.setIfInBounds_toArray, List.set_cons_zero, List.set_cons_succ]
      refine wpAnyH_take (i := 2) (oi := ⟨some 95, .move _, _, _, _, _⟩) (v := ?v138) rfl (by kernel_rfl) (by kernel_rfl) (by kernel_rfl) (fun _ _ _ h => h) (Or.inl ⟨by rfl, ?hy138⟩) (by assumption) ?rest138
      case hy138 =>
        intro w hSw

        go_simp
        try with_reducible rfl
      try simp only [Act.put, List.setIfInBounds_toArray, List.set_cons_zero, List.set_cons_succ]
      refine wpAnyH_ready (rs := [3]) (by kernel_rfl) (by simp) ?_
      refine AllReadyH.cons (o := ⟨some 96, .call _, _, _, _, _⟩) rfl (fun K hK => ?_) AllReadyH.nil
      go_simp
      refine (HH1.out _).mono ?_
      rintro e y1 ⟨rfl, b1⟩
      have K1 := bthen (Below.refl _ _).drew b1
      have L1 := Lib.hid (LE.out.on K1)
      have B1 := Lib.hid (BE.out.on K1)
      have V1 := Lib.hid (VE.out.on K1)
      have U1 := Lib.hid (TE.out.on K1)
      clear K1 b1
      go_wp2_with fail
      clear hHeld
      refine hK.out _ _ (⟨B1.out, L1.out.cells⟩) (fun hHeld => ?_)
      clear hK K
      try simp only [Act.put, List.setIfInBounds_toArray, List.set_cons_zero, List.set_cons_succ]
      refine wpAnyH_take (i := 4) (oi := ⟨some 97, .binOp _ _ _ _ _, _, _, _, _⟩) (v := ?v139) rfl (by kernel_rfl) (by kernel_rfl) (by kernel_rfl) (fun _ _ _ h => h) (Or.inl ⟨by rfl, ?hy139⟩) (by assumption) ?rest139
      case hy139 =>
        intro w hSw

        go_simp
        try with_reducible rfl
      try simp only [Act.put, List.setIfInBounds_toArray, List.set_cons_zero, List.set_cons_succ]
      refine wpAnyH_take (i := 5) (oi := ⟨some 98, .move _, _, _, _, _⟩) (v := ?v140) rfl (by kernel_rfl) (by kernel_rfl) (by kernel_rfl) (fun _ _ _ h => h) (Or.inl ⟨by rfl, ?hy140⟩) (by assumption) ?rest140
      case hy140 =>
        intro w hSw

        go_simp
        try with_reducible rfl
      try simp only [Act.put, List.setIfInBounds_toArray, List.set_cons_zero, List.set_cons_succ]
      refine wpAnyH_take (i := 6) (oi := ⟨some 99, .move _, _, _, _, _⟩) (v := ?v141) rfl (by kernel_rfl) (by kernel_rfl) (by kernel_rfl) (fun _ _ _ h => h) (Or.inl ⟨by rfl, ?hy141⟩) (by assumption) ?rest141
      case hy141 =>
        intro w hSw

        go_simp
        try with_reducible rfl
      try simp only [Act.put, List.setIfInBounds_toArray, List.set_cons_zero, List.set_cons_succ]
      refine wpAnyH_take (i := 8) (oi := ⟨some 101, .move _, _, _, _, _⟩) (v := ?v142) rfl (by kernel_rfl) (by kernel_rfl) (by kernel_rfl) (fun _ _ _ h => h) (Or.inl ⟨by rfl, ?hy142⟩) (by assumption) ?rest142
      case hy142 =>
        intro w hSw

        go_simp
        try with_reducible rfl
      try simp only [Act.put, List.setIfInBounds_toArray, List.set_cons_zero, List.set_cons_succ]
      refine wpAnyH_ready (rs := [7]) (by kernel_rfl) (by simp) ?_
      refine AllReadyH.cons (o := ⟨some 100, .call _, _, _, _, _⟩) rfl (fun K hK => ?_) AllReadyH.nil
      go_simp
      refine (tplaces_any y1 V1.out).mono ?_
      rintro e y2 ⟨z1, rfl, zb1, zl1, b2⟩
      have L2 := Lib.hid (L1.out.on b2)
      have B2 := Lib.hid (B1.out.on b2)
      have U2 := Lib.hid (U1.out.on b2)
      have Z2 := Lib.hid zb1
      clear zb1 zl1 b2 L1 B1 U1 V1
      go_wp2_with fail
      clear hHeld
      refine hK.out _ _ (⟨B2.out, L2.out.cells⟩) (fun hHeld => ?_)
      clear hK K
      try simp only [Act.put, List.setIfInBounds_toArray, List.set_cons_zero, List.set_cons_succ]
      refine wpAnyH_ready (rs := [9]) (by kernel_rfl) (by simp) ?_
      refine AllReadyH.cons (o := ⟨some 102, .call _, _, _, _, _⟩) rfl (fun K hK => ?_) AllReadyH.nil
      go_simp
      refine (tplaces_any y2 U2.out).mono ?_
      rintro e y3 ⟨z2, rfl, zb2, zl2, b3⟩
      have L3 := Lib.hid (L2.out.on b3)
      have B3 := Lib.hid (B2.out.on b3)
      have Z3 := Lib.hid (Z2.out.on b3)
      have Y3 := Lib.hid zb2
      clear zb2 zl2 b3 L2 B2 U2 Z2
      go_wp2_with fail
      clear hHeld
      refine hK.out _ _ (⟨B3.out, L3.out.cells⟩) (fun hHeld => ?_)
      clear hK K
      try simp only [Act.put, List.setIfInBounds_toArray, List.set_cons_zero, List.set_cons_succ]
      refine wpAnyH_ready (rs := [10]) (by kernel_rfl) (by simp) ?_
      refine AllReadyH.cons (o := ⟨some 103, .call _, _, _, _, _⟩) rfl (fun K hK => ?_) AllReadyH.nil
      go_simp
      refine (isame_any (some ⟨z1, 0, none⟩) (some ⟨z2, 0, none⟩) n n n n y3 HNm.out HNm.out _ _ HTk.out HTk.out y3.heap.size (Z3.out.rd Z3.out.lt) (Y3.out.rd Y3.out.lt)).mono ?_
      rintro e y4 ⟨rfl, q4, rfl⟩
      have L4 := Lib.hid (L3.out.on (below_draws (Below.refl _ _) q4))
      have B4 := Lib.hid (B3.out.on (below_draws (Below.refl _ _) q4))
      clear L3 B3 Z3 Y3
      rw [beq_self_eq_true]
      go_wp2_with fail
      clear hHeld
      refine hK.out _ _ (⟨B4.out, L4.out.cells⟩) (fun hHeld => ?_)
      clear hK K
      try simp only [Act.put, List.setIfInBounds_toArray, List.set_cons_zero, List.set_cons_succ]
      refine wpAnyH_take (i := 11) (oi := ⟨some 104, .pick _ _ _, _, _, _, _⟩) (v := ?v143) rfl (by kernel_rfl) (by kernel_rfl) (by kernel_rfl) (fun _ _ _ h => h) (Or.inl ⟨by rfl, ?hy143⟩) (by assumption) ?rest143
      case hy143 =>
        intro w hSw

        go_simp
        try with_reducible rfl
      try simp only [Act.put, List.setIfInBounds_toArray, List.set_cons_zero, List.set_cons_succ]
      refine wpAnyH_take (i := 12) (oi := ⟨some 20, .assign _, _, _, _, _⟩) (v := ?v144) rfl (by kernel_rfl) (by kernel_rfl) (by kernel_rfl) (fun _ _ _ h => h) (Or.inl ⟨by rfl, ?hy144⟩) (by assumption) ?rest144
      case hy144 =>
        intro w hSw

        go_simp
        try with_reducible rfl
      try simp only [Act.put, List.setIfInBounds_toArray, List.set_cons_zero, List.set_cons_succ]
      refine wpAnyH_done (by kernel_rfl) ?_ _
      clear LE BE
      have LE := L4
      have BE := B4
      clear L4 B4 hHeld
      generalize y3.drewN q4 = wF at LE BE ⊢
      clear UE
      go_wp2_with fail
      refine wp_region_held_drew (S := (fun w' => Box w' b17 26 (mcs m1) ∧ w'.cell? ⟨w.heap.size, 0, none⟩ = some (.int .i64 conv) ∧ w'.cell? ⟨w.heap.size, 1, none⟩ = some (.int .i64 soft) ∧ w'.cell? ⟨w.heap.size, 2, none⟩ = some (.int .i64 seq) ∧ w'.cell? ⟨w.heap.size, 3, none⟩ = some (.int .i64 size) ∧ w'.cell? ⟨w.heap.size, 4, none⟩ = some (.int .i64 opn))) (by kernel_rfl) (⟨BE.out.on (Below.refl _ _).drew, (LE.out.on (Below.refl _ _).drew).cells⟩) (fun hHeld => ?_)
      refine wpAnyH_take (i := 0) (oi := ⟨some 105, .load _ _, _, _, _, _⟩) (v := ?v145) rfl (by kernel_rfl) (by kernel_rfl) (by kernel_rfl) (fun _ _ _ h => h) (Or.inl ⟨by rfl, ?hy145⟩) (by assumption) ?rest145
      case hy145 =>
        intro w hSw
        have ca := LA.out _ _ _ hSw.1
        go_simp
        try with_reducible rfl
      try simp only [Act.put, List.setIfInBounds_toArray, List.set_cons_zero, List.set_cons_succ]
      refine wpAnyH_take (i := 1) (oi := ⟨some 106, .load _ _, _, _, _, _⟩) (v := ?v146) rfl (by kernel_rfl) (by kernel_rfl) (by kernel_rfl) (fun _ _ _ h => h) (Or.inl ⟨by rfl, ?hy146⟩) (by assumption) ?rest146
      case hy146 =>
        intro w hSw
        obtain ⟨_, hS0, hS1, hS2, hS3, hS4⟩ := hSw
        go_simp
        try with_reducible rfl
      try simp only [Act.put, List.setIfInBounds_toArray, List.set_cons_zero, List.set_cons_succ]
      refine wpAnyH_take (i := 2) (oi := ⟨some 107, .move _, _, _, _, _⟩) (v := ?v147) rfl (by kernel_rfl) (by kernel_rfl) (by kernel_rfl) (fun _ _ _ h => h) (Or.inl ⟨by rfl, ?hy147⟩) (by assumption) ?rest147
      case hy147 =>
        intro w hSw

        go_simp
        try with_reducible rfl
      try simp only [Act.put, List.setIfInBounds_toArray, List.set_cons_zero, List.set_cons_succ]
      refine wpAnyH_take (i := 3) (oi := ⟨some 108, .binOp _ _ _ _ _, _, _, _, _⟩) (v := ?v148) rfl (by kernel_rfl) (by kernel_rfl) (by kernel_rfl) (fun _ _ _ h => h) (Or.inl ⟨by rfl, ?hy148⟩) (by assumption) ?rest148
      case hy148 =>
        intro w hSw

        go_simp
        try with_reducible rfl
      try simp only [Act.put, List.setIfInBounds_toArray, List.set_cons_zero, List.set_cons_succ]
      refine wpAnyH_ready (rs := [4]) (by kernel_rfl) (by simp) ?_
      refine AllReadyH.cons (o := ⟨some 109, .call _, _, _, _, _⟩) rfl (fun K hK => ?_) AllReadyH.nil
      go_simp
      refine (HH2.out _).mono ?_
      rintro e y1 ⟨rfl, b1⟩
      have K1 := bthen (Below.refl _ _).drew b1
      have L1 := Lib.hid (LE.out.on K1)
      have B1 := Lib.hid (BE.out.on K1)
      clear K1 b1
      go_wp2_with fail
      clear hHeld
      refine hK.out _ _ (⟨B1.out, L1.out.cells⟩) (fun hHeld => ?_)
      clear hK K
      try simp only [Act.put, List.setIfInBounds_toArray, List.set_cons_zero, List.set_cons_succ]
      refine wpAnyH_take (i := 5) (oi := ⟨some 110, .binOp _ _ _ _ _, _, _, _, _⟩) (v := ?v149) rfl (by kernel_rfl) (by kernel_rfl) (by kernel_rfl) (fun _ _ _ h => h) (Or.inl ⟨by rfl, ?hy149⟩) (by assumption) ?rest149
      case hy149 =>
        intro w hSw

        go_simp
        try with_reducible rfl
      try simp only [Act.put, List.setIfInBounds_toArray, List.set_cons_zero, List.set_cons_succ]
      refine wpAnyH_take (i := 6) (oi := ⟨some 111, .move _, _, _, _, _⟩) (v := ?v150) rfl (by kernel_rfl) (by kernel_rfl) (by kernel_rfl) (fun _ _ _ h => h) (Or.inl ⟨by rfl, ?hy150⟩) (by assumption) ?rest150
      case hy150 =>
        intro w hSw

        go_simp
        try with_reducible rfl
      try simp only [Act.put, List.setIfInBounds_toArray, List.set_cons_zero, List.set_cons_succ]
      refine wpAnyH_take (i := 7) (oi := ⟨some 112, .move _, _, _, _, _⟩) (v := undef) rfl (by kernel_rfl) (by kernel_rfl) (by kernel_rfl) (fun _ _ _ h => h) (Or.inr ⟨by rfl, rfl⟩) (by assumption) ?rest151
      try simp only [Act.put, List.setIfInBounds_toArray, List.set_cons_zero, List.set_cons_succ]
      refine wpAnyH_take (i := 8) (oi := ⟨some 113, .call _, _, _, _, _⟩) (v := undef) rfl (by kernel_rfl) (by kernel_rfl) (by kernel_rfl) (fun _ _ _ h => h) (Or.inr ⟨by rfl, rfl⟩) (by assumption) ?rest152
      try simp only [Act.put, List.setIfInBounds_toArray, List.set_cons_zero, List.set_cons_succ]
      refine wpAnyH_take (i := 9) (oi := ⟨some 114, .move _, _, _, _, _⟩) (v := undef) rfl (by kernel_rfl) (by kernel_rfl) (by kernel_rfl) (fun _ _ _ h => h) (Or.inr ⟨by rfl, rfl⟩) (by assumption) ?rest153
      try simp only [Act.put, List.setIfInBounds_toArray, List.set_cons_zero, List.set_cons_succ]
      refine wpAnyH_take (i := 10) (oi := ⟨some 115, .call _, _, _, _, _⟩) (v := undef) rfl (by kernel_rfl) (by kernel_rfl) (by kernel_rfl) (fun _ _ _ h => h) (Or.inr ⟨by rfl, rfl⟩) (by assumption) ?rest154
      try simp only [Act.put, List.setIfInBounds_toArray, List.set_cons_zero, List.set_cons_succ]
      refine wpAnyH_take (i := 11) (oi := ⟨some 116, .call _, _, _, _, _⟩) (v := undef) rfl (by kernel_rfl) (by kernel_rfl) (by kernel_rfl) (fun _ _ _ h => h) (Or.inr ⟨by rfl, rfl⟩) (by assumption) ?rest155
      try simp only [Act.put, List.setIfInBounds_toArray, List.set_cons_zero, List.set_cons_succ]
      refine wpAnyH_take (i := 12) (oi := ⟨some 117, .pick _ _ _, _, _, _, _⟩) (v := ?v156) rfl (by kernel_rfl) (by kernel_rfl) (by kernel_rfl) (fun _ _ _ h => h) (Or.inl ⟨by rfl, ?hy156⟩) (by assumption) ?rest156
      case hy156 =>
        intro w hSw

        go_simp
        try with_reducible rfl
      try simp only [Act.put, List.setIfInBounds_toArray, List.set_cons_zero, List.set_cons_succ]
      refine wpAnyH_take (i := 13) (oi := ⟨some 21, .assign _, _, _, _, _⟩) (v := ?v157) rfl (by kernel_rfl) (by kernel_rfl) (by kernel_rfl) (fun _ _ _ h => h) (Or.inl ⟨by rfl, ?hy157⟩) (by assumption) ?rest157
      case hy157 =>
        intro w hSw

        go_simp
        try with_reducible rfl
      try simp only [Act.put, List.setIfInBounds_toArray, List.set_cons_zero, List.set_cons_succ]
      refine wpAnyH_done (by kernel_rfl) ?_ _
      clear LE BE
      have LE := L1
      have BE := B1
      clear L1 B1 hHeld
      have HB9 := Lib.hid LE.out.dv.2.1
      go_wp2
      go_ret
      exact ⟨rfl, HB9.out⟩

end Go.Proofs.Ytgnpohkippegpaa

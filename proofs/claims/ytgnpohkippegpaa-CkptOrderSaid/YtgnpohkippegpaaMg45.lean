/-
  CkP
-/
import Derived.Test.YtgnpohkippegpaaMg43
import Derived.Test.YtgnpohkippegpaaMg17
/-
  Layer 13's laws: the law Order.
-/
namespace Go.Proofs.Ytgnpohkippegpaa
open Go.RowKit Geom Zone Dev Ckp Word
set_option linter.unusedVariables false

namespace Ckp
theorem order_core {D0 : Dv} {m1 m2 : Mast.Mst} {ys1 ys2 : List Int} {n k P : Nat} (h : Sd k P D0) (hk : k + 3 * P + 12 ≤ 500) (hP : Tbl.pages n = P) (hn : n ≤ 4096)
    (hm1 : headB m1 (P : Int) = true) (hi1 : Mast.In m1) (ht1 : TabOk n ys1) (hm2 : headB m2 (P : Int) = true) (hi2 : Mast.In m2) (ht2 : TabOk n ys2) (hlt : m1.gen < m2.gen) (hpar : m1.gen % 2 ≠ m2.gen % 2) :
    ∃ D1 D2 D3, ckW D0 m2 ys2 P = (0, D1) ∧ Sd (k + P + 4) P D1 ∧ ckW D1 m1 ys1 P = (0, D2) ∧ Sd (k + P + 4 + P + 4) P D2 ∧ pickS D2 n P = some (m2, ys2) ∧ ckW D2 m2 ys2 P = (0, D3) ∧ Sd (k + P + 4 + P + 4 + P + 4) P D3 ∧ pickS D3 n P = some (m2, ys2) := by
  have hy1 : ys1.length = 10 * P := by rw [← hP]; exact ht1.len
  have hy2 : ys2.length = 10 * P := by rw [← hP]; exact ht2.len
  have g1 : 1 ≤ m1.gen := (of_decide_eq_true (head_iff.1 hm1).1 : Mast.Ok m1).1.1
  have o1 : m1.gen % 2 = 0 ∨ m1.gen % 2 = 1 := by omega
  have o2 : m2.gen % 2 = 0 ∨ m2.gen % 2 = 1 := by omega
  have e21 : 1 - m2.gen % 2 = m1.gen % 2 := by omega
  have w1 := whole_new hP hn hm1 hi1 ht1
  have w2 := whole_new hP hn hm2 hi2 ht2
  obtain ⟨D1, a1, s1, _, r1, _⟩ := ckW_full h (by omega) hm2 hy2
  obtain ⟨D2, a2, s2, _, r2, q2⟩ := ckW_full s1 (by omega) hm1 hy1
  obtain ⟨D3, a3, s3, _, r3, q3⟩ := ckW_full s2 (by omega) hm2 hy2
  refine ⟨D1, D2, D3, a1, s1, a2, s2, ?_, a3, s3, ?_⟩
  · refine pick_new o2 (by omega) (by rw [q2 _ o2 (fun h => hpar h.symm), r1]; exact w2) (.inr ⟨m1, ys1, ?_, by omega⟩)
    rw [e21, r2]
    exact w1
  · refine pick_new o2 (by omega) (by rw [r3]; exact w2) (.inr ⟨m1, ys1, ?_, by omega⟩)
    rw [e21, q3 _ o1 hpar, r2]
    exact w1
end Ckp

set_option maxRecDepth 100000 in
set_option maxHeartbeats 16000000 in
theorem cklaw_order (conv soft seq size opn : Int) (A1 A2 : Option Addr) (n1 cp1 n2 cp2 : Nat) (xs1 xs2 : List Int) (gen ahead : Int) (w : World) (h64 : W64 conv ∧ W64 soft ∧ W64 seq ∧ W64 size ∧ W64 opn) (hm1 : n1 ≤ maxLen) (hl1 : xs1.length = n1) (hx1 : ∀ x ∈ xs1, 0 ≤ x ∧ x < 4294967296) (hr1 : Rd w w.heap.size A1 (u32s xs1)) (hm2 : n2 ≤ maxLen) (hl2 : xs2.length = n2) (hx2 : ∀ x ∈ xs2, 0 ≤ x ∧ x < 4294967296) (hr2 : Rd w w.heap.size A2 (u32s xs2)) (g64 : W64 gen) (harm : 0 ≤ ahead ∧ ahead ≤ 255) :
    Calls Try.prog 6 #[gvl conv soft seq size opn, .slice A1 n1 cp1, .slice A2 n2 cp2, .int .i64 gen, .int .u8 ahead] w fun e w' => e = .returned (.bool true) ∧ Below w.heap.size w w' := by
  have QW := Lib.hid fun w' => awake13_any w'
  have QL := Lib.hid fun w' => rcklittle_any conv soft seq size opn w' h64
  have HX1 := Lib.hid (And.intro hl1 (And.intro hx1 hr1))
  have HX2 := Lib.hid (And.intro hl2 (And.intro hx2 hr2))
  have hml1 := hm1
  have hml2 := hm2
  unfold maxLen at hml1 hml2
  clear hl1 hx1 hr1 hl2 hx2 hr2 hm1 hm2
  clear h64
  go_enter Try.func6, Try.ntmps6
  go_wp2_with (first
    | ((with_reducible refine wpList_box_box _ (o := ⟨some 5, .box _ _, _, _, _, _⟩) rfl _ _ rfl (gcl conv soft seq size opn) rfl ?_); go_loud (intro w1 x0 hB0 hs0; have HB := Lib.hid (show Box w1 w.heap.size 23 (gcl conv soft seq size opn) ∧ Below w.heap.size w w1 from ⟨x0, hB0⟩); clear x0 hB0 hs0))
    | fail)
  refine (QW.out _).mono ?_
  rintro e wa ⟨rfl, hba⟩
  replace HB := Lib.hid (show Box wa w.heap.size 23 (gcl conv soft seq size opn) ∧ Below w.heap.size w wa from ⟨HB.out.1.on hba, bthen HB.out.2 hba⟩)
  clear hba
  have c0 : wa.cell? ⟨w.heap.size, 0, none⟩ = some (.int .i64 conv) := HB.out.1.cell 0
  have c1 : wa.cell? ⟨w.heap.size, 1, none⟩ = some (.int .i64 soft) := HB.out.1.cell 1
  have c2 : wa.cell? ⟨w.heap.size, 2, none⟩ = some (.int .i64 seq) := HB.out.1.cell 2
  have c3 : wa.cell? ⟨w.heap.size, 3, none⟩ = some (.int .i64 size) := HB.out.1.cell 3
  have c4 : wa.cell? ⟨w.heap.size, 4, none⟩ = some (.int .i64 opn) := HB.out.1.cell 4
  go_wp2_with fail
  refine (QL.out _).mono ?_
  rintro e wb ⟨rfl, hbb⟩
  replace HB := Lib.hid (show Box wb w.heap.size 23 (gcl conv soft seq size opn) ∧ Below w.heap.size w wb from ⟨HB.out.1.on hbb, bthen HB.out.2 hbb⟩)
  clear hbb c0 c1 c2 c3 c4
  cases hli : littleC conv soft seq size opn with
  | false =>
    go_wp2_with fail
    refine (QW.out _).mono ?_
    rintro e w9 ⟨rfl, hb9⟩
    have H9 := Lib.hid (bthen HB.out.2 hb9)
    clear hb9
    go_wp2
    go_ret
    exact ⟨rfl, H9.out⟩
  | true =>
    have HLi := Lib.hid (little_yes hli)
    clear hli QL
    by_cases h5 : 500 < n1
    · have h5' : (500 : Int) < n1 := by omega
      go_wp2_with fail
      refine (QW.out _).mono ?_
      rintro e w9 ⟨rfl, hb9⟩
      have H9 := Lib.hid (bthen HB.out.2 hb9)
      clear hb9
      go_wp2
      go_ret
      exact ⟨rfl, H9.out⟩
    have h5' : ¬ (500 : Int) < n1 := by omega
    by_cases h6 : 500 < n2
    · have h6' : (500 : Int) < n2 := by omega
      go_wp2_with fail
      refine (QW.out _).mono ?_
      rintro e w9 ⟨rfl, hb9⟩
      have H9 := Lib.hid (bthen HB.out.2 hb9)
      clear hb9
      go_wp2
      go_ret
      exact ⟨rfl, H9.out⟩
    have h6' : ¬ (500 : Int) < n2 := by omega
    by_cases h7 : gen < 1
    · go_wp2_with fail
      refine (QW.out _).mono ?_
      rintro e w9 ⟨rfl, hb9⟩
      have H9 := Lib.hid (bthen HB.out.2 hb9)
      clear hb9
      go_wp2
      go_ret
      exact ⟨rfl, H9.out⟩

    by_cases h8 : 549755813888 < gen
    · go_wp2_with fail
      refine (QW.out _).mono ?_
      rintro e w9 ⟨rfl, hb9⟩
      have H9 := Lib.hid (bthen HB.out.2 hb9)
      clear hb9
      go_wp2
      go_ret
      exact ⟨rfl, H9.out⟩

    obtain ⟨n, P, M⟩ := msr_of HLi.out.1
    have hP9 := M.little HLi.out.2.1 HLi.out.2.2.1
    have HM := Lib.hid (And.intro M hP9)
    have HHk : Hid ((((conv + seq).toNat : Nat) : Int) = conv + seq) := Lib.hid (by have h1 := M.ok.1; have h2 := M.ok.2.1; omega)
    clear M hP9
    have hw1 : IntKind.i64.wrap (gen + 1) = gen + 1 := IntWalk.i64_in _ (by omega)
    have hw2 : IntKind.i64.wrap (2 * ahead) = 2 * ahead := IntWalk.i64_in _ (by omega)
    have hw3 : IntKind.i64.wrap (gen + 1 + 2 * ahead) = gen + 1 + 2 * ahead := IntWalk.i64_in _ (by omega)
    obtain ⟨later, hlt0⟩ : ∃ later, later = gen + 1 + 2 * ahead := ⟨_, rfl⟩
    have HR1 := Lib.hid (head_yes (gen := gen) (epoch := 1) (sq := 1) (P := P) (by omega) (by decide) (by decide) (by have := HM.out.2; omega))
    have HR2 := Lib.hid (head_yes (gen := later) (epoch := 2) (sq := 2) (P := P) (by omega) (by decide) (by decide) (by have := HM.out.2; omega))
    have HH1 := Lib.hid (lw_head HM.out.1 gen 1 1)
    have HH2 := Lib.hid (lw_head HM.out.1 later 2 2)
    have HG1 : Hid ((hdM gen 1 1 (P : Int)).gen = gen) := Lib.hid rfl
    have HG2 : Hid ((hdM later 2 2 (P : Int)).gen = later) := Lib.hid rfl
    generalize hdM gen 1 1 (P : Int) = m1 at HR1 HH1 HG1
    generalize hdM later 2 2 (P : Int) = m2 at HR2 HH2 HG2
    have ht1 := tabOk_of (n := n) HX1.out.2.1
    have ht2 := tabOk_of (n := n) HX2.out.2.1
    have HT1 := Lib.hid fun (A : Option Addr) (c : Nat) (W : World) (hr : Rd W W.heap.size A (u32s xs1)) => lw_table HM.out.1 n1 c A xs1 W HX1.out.1 HX1.out.2.1 hr
    have HT2 := Lib.hid fun (A : Option Addr) (c : Nat) (W : World) (hr : Rd W W.heap.size A (u32s xs2)) => lw_table HM.out.1 n2 c A xs2 W HX2.out.1 HX2.out.2.1 hr
    generalize tabY n xs1 = ys1 at ht1 HT1
    generalize tabY n xs2 = ys2 at ht2 HT2
    have sd0 := sd_new (k := (conv + seq).toNat) HM.out.1 HHk.out
    obtain ⟨D1, D2, D3, e1, sd1, e2, sd2, p2, e3, sd3, p3⟩ := order_core sd0 (by have := HM.out.2; omega) HM.out.1.hP HM.out.1.n4 HR1.out.1 HR1.out.2 ht1 HR2.out.1 HR2.out.2 ht2 (by rw [HG1.out, HG2.out]; omega) (by rw [HG1.out, HG2.out]; omega)
    have HSD0 := Lib.hid sd0
    have HSD1 := Lib.hid sd1
    have HSD2 := Lib.hid sd2
    have HSD3 := Lib.hid sd3
    have HE1 := Lib.hid e1
    have HE2 := Lib.hid e2
    have HE3 := Lib.hid e3
    have HP2 := Lib.hid p2
    have HP3 := Lib.hid p3
    have HNar1 := Lib.hid ht1.nar
    have HNar2 := Lib.hid ht2.nar
    have HTk2 := Lib.hid (show (ys2.take n).length = n by have := ht2.len; have := Tbl.pages_up n; simp; omega)
    have HNm : Hid (n ≤ maxLen) := Lib.hid (by have := HM.out.1.n4; unfold maxLen; omega)
    clear sd0 sd1 sd2 sd3 e1 e2 e3 p2 p3 ht1 ht2
    generalize hD0 : newD conv soft seq size opn (conv + seq).toNat = D0 at HSD0 HE1
    have HD0 := Lib.hid hD0
    clear hD0
    rw [← hlt0] at hw3
    go_wp2_with fail
    rw [← hlt0]
    have HLt := Lib.hid hlt0
    clear hw1 hw2 hw3 hlt0 harm
    go_loopw [12] (fun i wr => ∃ k : Nat, k ≤ 2 ∧ i = .int .i64 k ∧ Box wr w.heap.size 23 (gcl conv soft seq size opn) ∧ Below w.heap.size w wr) (fun i _ => 2 - (intOf i).toNat)
    case atStart => exact ⟨0, by omega, rfl, HB.out⟩
    case round =>
      clear HB
      obtain ⟨k, hk, rfl, hbx, hbl⟩ := hrel
      have HB := Lib.hid (And.intro hbx hbl)
      clear hbx hbl
      rcases (show k = 0 ∨ k = 1 ∨ k = 2 by omega) with rfl | rfl | rfl
      · have c0 : wr.cell? ⟨w.heap.size, 0, none⟩ = some (.int .i64 conv) := HB.out.1.cell 0
        have c1 : wr.cell? ⟨w.heap.size, 1, none⟩ = some (.int .i64 soft) := HB.out.1.cell 1
        have c2 : wr.cell? ⟨w.heap.size, 2, none⟩ = some (.int .i64 seq) := HB.out.1.cell 2
        have c3 : wr.cell? ⟨w.heap.size, 3, none⟩ = some (.int .i64 size) := HB.out.1.cell 3
        have c4 : wr.cell? ⟨w.heap.size, 4, none⟩ = some (.int .i64 opn) := HB.out.1.cell 4
        go_wp2_with fail
        refine (lw_new HM.out.1 (w := w) (X := [w.heap.size]) HB.out.1 HB.out.2 (by have h1 := HB.out.1.lt; intro b hb; simp at hb; omega) (by simp)).mono ?_
        rintro e w3 ⟨d, rfl, hL, hb3⟩
        rw [HD0.out] at hL
        have L3 := Lib.hid hL
        clear hL hb3 HB c0 c1 c2 c3 c4
        go_wp2_with fail
        refine wp_region_held_drew (S := (fun w' => w'.cell? ⟨w.heap.size, 0, none⟩ = some (.int .i64 conv) ∧ w'.cell? ⟨w.heap.size, 1, none⟩ = some (.int .i64 soft) ∧ w'.cell? ⟨w.heap.size, 2, none⟩ = some (.int .i64 seq) ∧ w'.cell? ⟨w.heap.size, 3, none⟩ = some (.int .i64 size) ∧ w'.cell? ⟨w.heap.size, 4, none⟩ = some (.int .i64 opn))) (by kernel_rfl) ((L3.out.on (Below.refl _ _).drew).cells) (fun hHeld => ?_)
        refine wpAnyH_take (i := 0) (oi := ⟨some 57, .move _, _, _, _, _⟩) (v := ?v158) rfl (by kernel_rfl) (by kernel_rfl) (by kernel_rfl) (fun _ _ _ h => h) (Or.inl ⟨by rfl, ?hy158⟩) (by assumption) ?rest158
        case hy158 =>
          intro w hSw

          go_simp
          try with_reducible rfl
        try simp only [Act.put, List.setIfInBounds_toArray, List.set_cons_zero, List.set_cons_succ]
        refine wpAnyH_take (i := 1) (oi := ⟨some 58, .load _ _, _, _, _, _⟩) (v := ?v159) rfl (by kernel_rfl) (by kernel_rfl) (by kernel_rfl) (fun _ _ _ h => h) (Or.inl ⟨by rfl, ?hy159⟩) (by assumption) ?rest159
        case hy159 =>
          intro w hSw
          obtain ⟨hS0, hS1, hS2, hS3, hS4⟩ := hSw
          go_simp
          try with_reducible rfl
        try simp only [Act.put, List.setIfInBounds_toArray, List.set_cons_zero, List.set_cons_succ]
        refine wpAnyH_take (i := 2) (oi := ⟨some 59, .load _ _, _, _, _, _⟩) (v := ?v160) rfl (by kernel_rfl) (by kernel_rfl) (by kernel_rfl) (fun _ _ _ h => h) (Or.inl ⟨by rfl, ?hy160⟩) (by assumption) ?rest160
        case hy160 =>
          intro w hSw
          obtain ⟨hS0, hS1, hS2, hS3, hS4⟩ := hSw
          go_simp
          try with_reducible rfl
        try simp only [Act.put, List.setIfInBounds_toArray, List.set_cons_zero, List.set_cons_succ]
        refine wpAnyH_take (i := 3) (oi := ⟨some 60, .move _, _, _, _, _⟩) (v := ?v161) rfl (by kernel_rfl) (by kernel_rfl) (by kernel_rfl) (fun _ _ _ h => h) (Or.inl ⟨by rfl, ?hy161⟩) (by assumption) ?rest161
        case hy161 =>
          intro w hSw

          go_simp
          try with_reducible rfl
        try simp only [Act.put, List.setIfInBounds_toArray, List.set_cons_zero, List.set_cons_succ]
        refine wpAnyH_take (i := 5) (oi := ⟨some 62, .load _ _, _, _, _, _⟩) (v := ?v162) rfl (by kernel_rfl) (by kernel_rfl) (by kernel_rfl) (fun _ _ _ h => h) (Or.inl ⟨by rfl, ?hy162⟩) (by assumption) ?rest162
        case hy162 =>
          intro w hSw
          obtain ⟨hS0, hS1, hS2, hS3, hS4⟩ := hSw
          go_simp
          try with_reducible rfl
        try simp only [Act.put, List.setIfInBounds_toArray, List.set_cons_zero, List.set_cons_succ]
        refine wpAnyH_take (i := 6) (oi := ⟨some 63, .move _, _, _, _, _⟩) (v := ?v163) rfl (by kernel_rfl) (by kernel_rfl) (by kernel_rfl) (fun _ _ _ h => h) (Or.inl ⟨by rfl, ?hy163⟩) (by assumption) ?rest163
        case hy163 =>
          intro w hSw

          go_simp
          try with_reducible rfl
        try simp only [Act.put, List.setIfInBounds_toArray, List.set_cons_zero, List.set_cons_succ]
        refine wpAnyH_ready (rs := [4]) (by kernel_rfl) (by simp) ?_
        refine AllReadyH.cons (o := ⟨some 61, .call _, _, _, _, _⟩) rfl (fun K hK => ?_) AllReadyH.nil
        go_simp
        refine (HH2.out _).mono ?_
        rintro e y1 ⟨rfl, b1⟩
        have LY1 := Lib.hid (L3.out.on (bthen (Below.refl _ _).drew b1))
        clear b1
        go_wp2_with fail
        clear hHeld
        refine hK.out _ _ (LY1.out.cells) (fun hHeld => ?_)
        clear hK K
        try simp only [Act.put, List.setIfInBounds_toArray, List.set_cons_zero, List.set_cons_succ]
        refine wpAnyH_ready (rs := [7]) (by kernel_rfl) (by simp) ?_
        refine AllReadyH.cons (o := ⟨some 64, .call _, _, _, _, _⟩) rfl (fun K hK => ?_) AllReadyH.nil
        go_simp
        refine (HT2.out A2 cp2 _ ((HX2.out.2.2.below LY1.out.dv.2.1).more LY1.out.dv.2.1.size)).mono ?_
        rintro e y2 ⟨t2, g2, h2, ds2, rfl, hT, hbd, b2⟩
        have LY2 := Lib.hid (LY1.out.more b2 [t2, g2, h2] hbd)
        have TY2 := Lib.hid hT
        clear hT hbd b2
        go_wp2_with fail
        clear hHeld
        refine hK.out _ _ (LY2.out.cells) (fun hHeld => ?_)
        clear hK K
        try simp only [Act.put, List.setIfInBounds_toArray, List.set_cons_zero, List.set_cons_succ]
        refine wpAnyH_ready (rs := [8]) (by kernel_rfl) (by simp) ?_
        refine AllReadyH.cons (o := ⟨some 65, .call _, _, _, _, _⟩) rfl (fun K hK => ?_) AllReadyH.nil
        go_simp
        refine (lw_write HM.out.1 LY2.out m2 HSD0.out.n (by have := HM.out.2; omega) TY2.out (by simp) HNar2.out HR2.out.2).mono ?_
        rintro e w4 ⟨rfl, hl, hF⟩
        rw [HE1.out] at hl ⊢
        have L4 := Lib.hid (hl.less (X := [w.heap.size]) (by simp) (by simp))
        clear hl hF LY1 LY2 TY2
        go_wp2_with fail
        clear hHeld
        refine hK.out _ _ (L4.out.cells) (fun hHeld => ?_)
        clear hK K
        try simp only [Act.put, List.setIfInBounds_toArray, List.set_cons_zero, List.set_cons_succ]
        refine wpAnyH_take (i := 9) (oi := ⟨some 14, .assign _, _, _, _, _⟩) (v := ?v164) rfl (by kernel_rfl) (by kernel_rfl) (by kernel_rfl) (fun _ _ _ h => h) (Or.inl ⟨by rfl, ?hy164⟩) (by assumption) ?rest164
        case hy164 =>
          intro w hSw

          go_simp
          try with_reducible rfl
        try simp only [Act.put, List.setIfInBounds_toArray, List.set_cons_zero, List.set_cons_succ]
        refine wpAnyH_done (by kernel_rfl) ?_ _
        clear hHeld L3
        go_wp2_with fail
        refine wp_region_held_drew (S := (fun w' => w'.cell? ⟨w.heap.size, 0, none⟩ = some (.int .i64 conv) ∧ w'.cell? ⟨w.heap.size, 1, none⟩ = some (.int .i64 soft) ∧ w'.cell? ⟨w.heap.size, 2, none⟩ = some (.int .i64 seq) ∧ w'.cell? ⟨w.heap.size, 3, none⟩ = some (.int .i64 size) ∧ w'.cell? ⟨w.heap.size, 4, none⟩ = some (.int .i64 opn))) (by kernel_rfl) ((L4.out.on (Below.refl _ _).drew).cells) (fun hHeld => ?_)
        refine wpAnyH_take (i := 0) (oi := ⟨some 66, .move _, _, _, _, _⟩) (v := ?v165) rfl (by kernel_rfl) (by kernel_rfl) (by kernel_rfl) (fun _ _ _ h => h) (Or.inl ⟨by rfl, ?hy165⟩) (by assumption) ?rest165
        case hy165 =>
          intro w hSw

          go_simp
          try with_reducible rfl
        try simp only [Act.put, List.setIfInBounds_toArray, List.set_cons_zero, List.set_cons_succ]
        refine wpAnyH_take (i := 1) (oi := ⟨some 67, .load _ _, _, _, _, _⟩) (v := ?v166) rfl (by kernel_rfl) (by kernel_rfl) (by kernel_rfl) (fun _ _ _ h => h) (Or.inl ⟨by rfl, ?hy166⟩) (by assumption) ?rest166
        case hy166 =>
          intro w hSw
          obtain ⟨hS0, hS1, hS2, hS3, hS4⟩ := hSw
          go_simp
          try with_reducible rfl
        try simp only [Act.put, List.setIfInBounds_toArray, List.set_cons_zero, List.set_cons_succ]
        refine wpAnyH_take (i := 2) (oi := ⟨some 68, .load _ _, _, _, _, _⟩) (v := ?v167) rfl (by kernel_rfl) (by kernel_rfl) (by kernel_rfl) (fun _ _ _ h => h) (Or.inl ⟨by rfl, ?hy167⟩) (by assumption) ?rest167
        case hy167 =>
          intro w hSw
          obtain ⟨hS0, hS1, hS2, hS3, hS4⟩ := hSw
          go_simp
          try with_reducible rfl
        try simp only [Act.put, List.setIfInBounds_toArray, List.set_cons_zero, List.set_cons_succ]
        refine wpAnyH_take (i := 3) (oi := ⟨some 69, .move _, _, _, _, _⟩) (v := ?v168) rfl (by kernel_rfl) (by kernel_rfl) (by kernel_rfl) (fun _ _ _ h => h) (Or.inl ⟨by rfl, ?hy168⟩) (by assumption) ?rest168
        case hy168 =>
          intro w hSw

          go_simp
          try with_reducible rfl
        try simp only [Act.put, List.setIfInBounds_toArray, List.set_cons_zero, List.set_cons_succ]
        refine wpAnyH_take (i := 5) (oi := ⟨some 71, .load _ _, _, _, _, _⟩) (v := ?v169) rfl (by kernel_rfl) (by kernel_rfl) (by kernel_rfl) (fun _ _ _ h => h) (Or.inl ⟨by rfl, ?hy169⟩) (by assumption) ?rest169
        case hy169 =>
          intro w hSw
          obtain ⟨hS0, hS1, hS2, hS3, hS4⟩ := hSw
          go_simp
          try with_reducible rfl
        try simp only [Act.put, List.setIfInBounds_toArray, List.set_cons_zero, List.set_cons_succ]
        refine wpAnyH_take (i := 6) (oi := ⟨some 72, .move _, _, _, _, _⟩) (v := ?v170) rfl (by kernel_rfl) (by kernel_rfl) (by kernel_rfl) (fun _ _ _ h => h) (Or.inl ⟨by rfl, ?hy170⟩) (by assumption) ?rest170
        case hy170 =>
          intro w hSw

          go_simp
          try with_reducible rfl
        try simp only [Act.put, List.setIfInBounds_toArray, List.set_cons_zero, List.set_cons_succ]
        refine wpAnyH_ready (rs := [4]) (by kernel_rfl) (by simp) ?_
        refine AllReadyH.cons (o := ⟨some 70, .call _, _, _, _, _⟩) rfl (fun K hK => ?_) AllReadyH.nil
        go_simp
        refine (HH1.out _).mono ?_
        rintro e y1 ⟨rfl, b1⟩
        have LY1 := Lib.hid (L4.out.on (bthen (Below.refl _ _).drew b1))
        clear b1
        go_wp2_with fail
        clear hHeld
        refine hK.out _ _ (LY1.out.cells) (fun hHeld => ?_)
        clear hK K
        try simp only [Act.put, List.setIfInBounds_toArray, List.set_cons_zero, List.set_cons_succ]
        refine wpAnyH_ready (rs := [7]) (by kernel_rfl) (by simp) ?_
        refine AllReadyH.cons (o := ⟨some 73, .call _, _, _, _, _⟩) rfl (fun K hK => ?_) AllReadyH.nil
        go_simp
        refine (HT1.out A1 cp1 _ ((HX1.out.2.2.below LY1.out.dv.2.1).more LY1.out.dv.2.1.size)).mono ?_
        rintro e y2 ⟨t2, g2, h2, ds2, rfl, hT, hbd, b2⟩
        have LY2 := Lib.hid (LY1.out.more b2 [t2, g2, h2] hbd)
        have TY2 := Lib.hid hT
        clear hT hbd b2
        go_wp2_with fail
        clear hHeld
        refine hK.out _ _ (LY2.out.cells) (fun hHeld => ?_)
        clear hK K
        try simp only [Act.put, List.setIfInBounds_toArray, List.set_cons_zero, List.set_cons_succ]
        refine wpAnyH_ready (rs := [8]) (by kernel_rfl) (by simp) ?_
        refine AllReadyH.cons (o := ⟨some 74, .call _, _, _, _, _⟩) rfl (fun K hK => ?_) AllReadyH.nil
        go_simp
        refine (lw_write HM.out.1 LY2.out m1 HSD1.out.n (by have := HM.out.2; omega) TY2.out (by simp) HNar1.out HR1.out.2).mono ?_
        rintro e w5 ⟨rfl, hl, hF⟩
        rw [HE2.out] at hl ⊢
        have L5 := Lib.hid (hl.less (X := [w.heap.size]) (by simp) (by simp))
        clear hl hF LY1 LY2 TY2
        go_wp2_with fail
        clear hHeld
        refine hK.out _ _ (L5.out.cells) (fun hHeld => ?_)
        clear hK K
        try simp only [Act.put, List.setIfInBounds_toArray, List.set_cons_zero, List.set_cons_succ]
        refine wpAnyH_take (i := 9) (oi := ⟨some 15, .assign _, _, _, _, _⟩) (v := ?v171) rfl (by kernel_rfl) (by kernel_rfl) (by kernel_rfl) (fun _ _ _ h => h) (Or.inl ⟨by rfl, ?hy171⟩) (by assumption) ?rest171
        case hy171 =>
          intro w hSw

          go_simp
          try with_reducible rfl
        try simp only [Act.put, List.setIfInBounds_toArray, List.set_cons_zero, List.set_cons_succ]
        refine wpAnyH_done (by kernel_rfl) ?_ _
        clear hHeld L4
        obtain ⟨c0, c1, c2, c3, c4⟩ := L5.out.cells
        go_wp2_with fail
        refine (lw_pick HM.out.1 L5.out HSD2.out.n.ok HSD2.out.od HSD2.out.up HSD2.out.so).mono ?_
        rw [HP2.out]
        rintro e wP ⟨hp, hF⟩
        unfold LwPk at hp
        obtain ⟨dt, gt, ht, rfl, htb, hL⟩ := hp
        have LP := Lib.hid hL
        have VP := Lib.hid htb
        clear hL hF htb c0 c1 c2 c3 c4 L5 
        simp only at VP
        go_wp2_with (first
          | ((with_reducible refine wpList_ms_alloc (o := ⟨some 16, .alloc _, _, _, _, _⟩) rfl rfl ?_); intro wD xD hBD hsD)
          | ((with_reducible refine wpList_ms_store (o := ⟨none, .store _ (.tmp 16) _, _, _, _, _⟩) rfl _ _ rfl wP.heap.size m2 Mast.m0 rfl rfl xD ?_); go_loud (intro wE xE hgE hsE; have KE := below_stored hBD hgE hBD.size (Nat.le_refl _); have LE := Lib.hid (LP.out.more KE [wP.heap.size] (by have h1 := hBD.size; have h2 := xE.lt; intro b hb; simp at hb; omega)); have BE := Lib.hid xE; have VE := Lib.hid (VP.out.on KE);  clear xD hBD hsD xE hgE hsE KE LP VP ; generalize wP.heap.size = b16 at *))
          | fail)
        refine wp_region_held_drew (S := (fun w' => Box w' b16 26 (mcs m2) ∧ w'.cell? ⟨w.heap.size, 0, none⟩ = some (.int .i64 conv) ∧ w'.cell? ⟨w.heap.size, 1, none⟩ = some (.int .i64 soft) ∧ w'.cell? ⟨w.heap.size, 2, none⟩ = some (.int .i64 seq) ∧ w'.cell? ⟨w.heap.size, 3, none⟩ = some (.int .i64 size) ∧ w'.cell? ⟨w.heap.size, 4, none⟩ = some (.int .i64 opn))) (by kernel_rfl) (⟨BE.out.on (Below.refl _ _).drew, (LE.out.on (Below.refl _ _).drew).cells⟩) (fun hHeld => ?_)
        refine wpAnyH_take (i := 0) (oi := ⟨some 93, .move _, _, _, _, _⟩) (v := ?v172) rfl (by kernel_rfl) (by kernel_rfl) (by kernel_rfl) (fun _ _ _ h => h) (Or.inl ⟨by rfl, ?hy172⟩) (by assumption) ?rest172
        case hy172 =>
          intro w9 hSw

          go_simp
          try with_reducible rfl
        try simp only [Act.put, List.setIfInBounds_toArray, List.set_cons_zero, List.set_cons_succ]
        refine wpAnyH_take (i := 1) (oi := ⟨some 94, .binOp _ _ _ _ _, _, _, _, _⟩) (v := ?v173) rfl (by kernel_rfl) (by kernel_rfl) (by kernel_rfl) (fun _ _ _ h => h) (Or.inl ⟨by rfl, ?hy173⟩) (by assumption) ?rest173
        case hy173 =>
          intro w9 hSw

          go_simp
          try with_reducible rfl
        try simp only [Act.put, List.setIfInBounds_toArray, List.set_cons_zero, List.set_cons_succ]
        refine wpAnyH_take (i := 2) (oi := ⟨some 95, .move _, _, _, _, _⟩) (v := ?v174) rfl (by kernel_rfl) (by kernel_rfl) (by kernel_rfl) (fun _ _ _ h => h) (Or.inl ⟨by rfl, ?hy174⟩) (by assumption) ?rest174
        case hy174 =>
          intro w9 hSw

          go_simp
          try with_reducible rfl
        try simp only [Act.put, List.setIfInBounds_toArray, List.set_cons_zero, List.set_cons_succ]
        refine wpAnyH_take (i := 3) (oi := ⟨some 96, .move _, _, _, _, _⟩) (v := ?v175) rfl (by kernel_rfl) (by kernel_rfl) (by kernel_rfl) (fun _ _ _ h => h) (Or.inl ⟨by rfl, ?hy175⟩) (by assumption) ?rest175
        case hy175 =>
          intro w9 hSw

          go_simp
          try with_reducible rfl
        try simp only [Act.put, List.setIfInBounds_toArray, List.set_cons_zero, List.set_cons_succ]
        refine wpAnyH_take (i := 4) (oi := ⟨some 97, .binOp _ _ _ _ _, _, _, _, _⟩) (v := ?v176) rfl (by kernel_rfl) (by kernel_rfl) (by kernel_rfl) (fun _ _ _ h => h) (Or.inl ⟨by rfl, ?hy176⟩) (by assumption) ?rest176
        case hy176 =>
          intro w9 hSw

          go_simp
          try with_reducible rfl
        try simp only [Act.put, List.setIfInBounds_toArray, List.set_cons_zero, List.set_cons_succ]
        refine wpAnyH_take (i := 5) (oi := ⟨some 98, .pick _ _ _, _, _, _, _⟩) (v := ?v177) rfl (by kernel_rfl) (by kernel_rfl) (by kernel_rfl) (fun _ _ _ h => h) (Or.inl ⟨by rfl, ?hy177⟩) (by assumption) ?rest177
        case hy177 =>
          intro w9 hSw

          go_simp
          try with_reducible rfl
        try simp only [Act.put, List.setIfInBounds_toArray, List.set_cons_zero, List.set_cons_succ]
        refine wpAnyH_take (i := 6) (oi := ⟨some 99, .move _, _, _, _, _⟩) (v := ?v178) rfl (by kernel_rfl) (by kernel_rfl) (by kernel_rfl) (fun _ _ _ h => h) (Or.inl ⟨by rfl, ?hy178⟩) (by assumption) ?rest178
        case hy178 =>
          intro w9 hSw

          go_simp
          try with_reducible rfl
        try simp only [Act.put, List.setIfInBounds_toArray, List.set_cons_zero, List.set_cons_succ]
        refine wpAnyH_take (i := 7) (oi := ⟨some 100, .move _, _, _, _, _⟩) (v := ?v179) rfl (by kernel_rfl) (by kernel_rfl) (by kernel_rfl) (fun _ _ _ h => h) (Or.inl ⟨by rfl, ?hy179⟩) (by assumption) ?rest179
        case hy179 =>
          intro w9 hSw

          go_simp
          try with_reducible rfl
        try simp only [Act.put, List.setIfInBounds_toArray, List.set_cons_zero, List.set_cons_succ]
        refine wpAnyH_take (i := 8) (oi := ⟨some 101, .binOp _ _ _ _ _, _, _, _, _⟩) (v := ?v180) rfl (by kernel_rfl) (by kernel_rfl) (by kernel_rfl) (fun _ _ _ h => h) (Or.inl ⟨by rfl, ?hy180⟩) (by assumption) ?rest180
        case hy180 =>
          intro w9 hSw

          go_simp
          try with_reducible rfl
        try simp only [Act.put, List.setIfInBounds_toArray, List.set_cons_zero, List.set_cons_succ]
        refine wpAnyH_take (i := 9) (oi := ⟨some 102, .pick _ _ _, _, _, _, _⟩) (v := ?v181) rfl (by kernel_rfl) (by kernel_rfl) (by kernel_rfl) (fun _ _ _ h => h) (Or.inl ⟨by rfl, ?hy181⟩) (by assumption) ?rest181
        case hy181 =>
          intro w9 hSw

          go_simp
          try with_reducible rfl
        try simp only [Act.put, List.setIfInBounds_toArray, List.set_cons_zero, List.set_cons_succ]
        refine wpAnyH_take (i := 10) (oi := ⟨some 103, .move _, _, _, _, _⟩) (v := ?v182) rfl (by kernel_rfl) (by kernel_rfl) (by kernel_rfl) (fun _ _ _ h => h) (Or.inl ⟨by rfl, ?hy182⟩) (by assumption) ?rest182
        case hy182 =>
          intro w9 hSw

          go_simp
          try with_reducible rfl
        try simp only [Act.put, List.setIfInBounds_toArray, List.set_cons_zero, List.set_cons_succ]
        refine wpAnyH_take (i := 11) (oi := ⟨some 104, .fieldAddr _ _ _, _, _, _, _⟩) (v := ?v183) rfl (by kernel_rfl) (by kernel_rfl) (by kernel_rfl) (fun _ _ _ h => h) (Or.inl ⟨by rfl, ?hy183⟩) (by assumption) ?rest183
        case hy183 =>
          intro w9 hSw

          go_simp
          try with_reducible rfl
        try simp only [Act.put, List.setIfInBounds_toArray, List.set_cons_zero, List.set_cons_succ]
        refine wpAnyH_take (i := 12) (oi := ⟨some 105, .load _ _, _, _, _, _⟩) (v := ?v184) rfl (by kernel_rfl) (by kernel_rfl) (by kernel_rfl) (fun _ _ _ h => h) (Or.inl ⟨by rfl, ?hy184⟩) (by assumption) ?rest184
        case hy184 =>
          intro w9 hSw
          have cm : w9.cell? ⟨b16, 1, none⟩ = some (.int .i64 m2.gen) := hSw.1.cell 1
          rw [HG2.out] at cm
          go_simp
          try with_reducible rfl
        try simp only [Act.put, List.setIfInBounds_toArray, List.set_cons_zero, List.set_cons_succ]
        refine wpAnyH_take (i := 13) (oi := ⟨some 106, .move _, _, _, _, _⟩) (v := ?v185) rfl (by kernel_rfl) (by kernel_rfl) (by kernel_rfl) (fun _ _ _ h => h) (Or.inl ⟨by rfl, ?hy185⟩) (by assumption) ?rest185
        case hy185 =>
          intro w9 hSw

          go_simp
          try with_reducible rfl
        try simp only [Act.put, List.setIfInBounds_toArray, List.set_cons_zero, List.set_cons_succ]
        refine wpAnyH_take (i := 14) (oi := ⟨some 107, .binOp _ _ _ _ _, _, _, _, _⟩) (v := ?v186) rfl (by kernel_rfl) (by kernel_rfl) (by kernel_rfl) (fun _ _ _ h => h) (Or.inl ⟨by rfl, ?hy186⟩) (by assumption) ?rest186
        case hy186 =>
          intro w9 hSw

          go_simp
          try with_reducible rfl
        try simp only [Act.put, List.setIfInBounds_toArray, List.set_cons_zero, List.set_cons_succ]
        refine wpAnyH_take (i := 15) (oi := ⟨some 108, .pick _ _ _, _, _, _, _⟩) (v := ?v187) rfl (by kernel_rfl) (by kernel_rfl) (by kernel_rfl) (fun _ _ _ h => h) (Or.inl ⟨by rfl, ?hy187⟩) (by assumption) ?rest187
        case hy187 =>
          intro w9 hSw

          go_simp
          try with_reducible rfl
        try simp only [Act.put, List.setIfInBounds_toArray, List.set_cons_zero, List.set_cons_succ]
        refine wpAnyH_take (i := 16) (oi := ⟨some 109, .move _, _, _, _, _⟩) (v := ?v188) rfl (by kernel_rfl) (by kernel_rfl) (by kernel_rfl) (fun _ _ _ h => h) (Or.inl ⟨by rfl, ?hy188⟩) (by assumption) ?rest188
        case hy188 =>
          intro w9 hSw

          go_simp
          try with_reducible rfl
        try simp only [Act.put, List.setIfInBounds_toArray, List.set_cons_zero, List.set_cons_succ]
        refine wpAnyH_take (i := 17) (oi := ⟨some 110, .move _, _, _, _, _⟩) (v := ?v189) rfl (by kernel_rfl) (by kernel_rfl) (by kernel_rfl) (fun _ _ _ h => h) (Or.inl ⟨by rfl, ?hy189⟩) (by assumption) ?rest189
        case hy189 =>
          intro w9 hSw

          go_simp
          try with_reducible rfl
        try simp only [Act.put, List.setIfInBounds_toArray, List.set_cons_zero, List.set_cons_succ]
        refine wpAnyH_take (i := 19) (oi := ⟨some 112, .load _ _, _, _, _, _⟩) (v := ?v190) rfl (by kernel_rfl) (by kernel_rfl) (by kernel_rfl) (fun _ _ _ h => h) (Or.inl ⟨by rfl, ?hy190⟩) (by assumption) ?rest190
        case hy190 =>
          intro w9 hSw
          obtain ⟨_, hS0, hS1, hS2, hS3, hS4⟩ := hSw
          go_simp
          try with_reducible rfl
        try simp only [Act.put, List.setIfInBounds_toArray, List.set_cons_zero, List.set_cons_succ]
        refine wpAnyH_take (i := 20) (oi := ⟨some 113, .move _, _, _, _, _⟩) (v := ?v191) rfl (by kernel_rfl) (by kernel_rfl) (by kernel_rfl) (fun _ _ _ h => h) (Or.inl ⟨by rfl, ?hy191⟩) (by assumption) ?rest191
        case hy191 =>
          intro w9 hSw

          go_simp
          try with_reducible rfl
        try simp only [Act.put, List.setIfInBounds_toArray, List.set_cons_zero, List.set_cons_succ]
        refine wpAnyH_ready (rs := [18]) (by kernel_rfl) (by simp) ?_
        refine AllReadyH.cons (o := ⟨some 111, .call _, _, _, _, _⟩) rfl (fun K hK => ?_) AllReadyH.nil
        go_simp
        refine (tplaces_any _ (VE.out.on (Below.refl _ _).drew)).mono ?_
        rintro e y1 ⟨z1, rfl, zb1, zl1, b1⟩
        have K1 := bthen (Below.refl _ _).drew b1
        have L1 := Lib.hid (LE.out.on K1)
        have B1 := Lib.hid (BE.out.on K1)
        have Z1 := Lib.hid zb1
        clear K1 b1 zb1 zl1 LE BE VE
        go_wp2_with fail
        clear hHeld
        refine hK.out _ _ (⟨B1.out, L1.out.cells⟩) (fun hHeld => ?_)
        clear hK K
        try simp only [Act.put, List.setIfInBounds_toArray, List.set_cons_zero, List.set_cons_succ]
        refine wpAnyH_ready (rs := [21]) (by kernel_rfl) (by simp) ?_
        refine AllReadyH.cons (o := ⟨some 114, .call _, _, _, _, _⟩) rfl (fun K hK => ?_) AllReadyH.nil
        go_simp
        refine (HT2.out A2 cp2 _ ((HX2.out.2.2.below L1.out.dv.2.1).more L1.out.dv.2.1.size)).mono ?_
        rintro e y2 ⟨t2, g2, h2, ds2, rfl, hT, hbd, b2⟩
        have L2 := Lib.hid (L1.out.on b2)
        have B2 := Lib.hid (B1.out.on b2)
        have Z2 := Lib.hid (Z1.out.on b2)
        have TY2 := Lib.hid hT
        clear hT hbd b2 L1 B1 Z1
        go_wp2_with fail
        clear hHeld
        refine hK.out _ _ (⟨B2.out, L2.out.cells⟩) (fun hHeld => ?_)
        clear hK K
        try simp only [Act.put, List.setIfInBounds_toArray, List.set_cons_zero, List.set_cons_succ]
        refine wpAnyH_ready (rs := [22]) (by kernel_rfl) (by simp) ?_
        refine AllReadyH.cons (o := ⟨some 115, .call _, _, _, _, _⟩) rfl (fun K hK => ?_) AllReadyH.nil
        go_simp
        refine (tplaces_any y2 TY2.out).mono ?_
        rintro e y3 ⟨z2, rfl, zb2, zl2, b3⟩
        have L3 := Lib.hid (L2.out.on b3)
        have B3 := Lib.hid (B2.out.on b3)
        have Z3 := Lib.hid (Z2.out.on b3)
        have Y3 := Lib.hid zb2
        clear zb2 zl2 b3 L2 B2 TY2 Z2
        go_wp2_with fail
        clear hHeld
        refine hK.out _ _ (⟨B3.out, L3.out.cells⟩) (fun hHeld => ?_)
        clear hK K
        try simp only [Act.put, List.setIfInBounds_toArray, List.set_cons_zero, List.set_cons_succ]
        refine wpAnyH_ready (rs := [23]) (by kernel_rfl) (by simp) ?_
        refine AllReadyH.cons (o := ⟨some 116, .call _, _, _, _, _⟩) rfl (fun K hK => ?_) AllReadyH.nil
        go_simp
        refine (isame_any (some ⟨z1, 0, none⟩) (some ⟨z2, 0, none⟩) n n n n y3 HNm.out HNm.out _ _ HTk2.out HTk2.out y3.heap.size (Z3.out.rd Z3.out.lt) (Y3.out.rd Y3.out.lt)).mono ?_
        rintro e y4 ⟨rfl, q4, rfl⟩
        have L4 := Lib.hid (L3.out.on (below_draws (Below.refl _ _) q4))
        have B4 := Lib.hid (B3.out.on (below_draws (Below.refl _ _) q4))
        clear L3 B3 Z3 Y3
        rw [beq_self_eq_true]
        go_wp2_with fail
        clear hHeld
        refine hK.out _ _ (⟨B4.out, L4.out.cells⟩) (fun hHeld => ?_)
        clear hK K
        try simp only [Act.put, List.setIfInBounds_toArray, List.set_cons_zero, List.set_cons_succ]
        refine wpAnyH_take (i := 24) (oi := ⟨some 117, .unOp _ _ _, _, _, _, _⟩) (v := ?v192) rfl (by kernel_rfl) (by kernel_rfl) (by kernel_rfl) (fun _ _ _ h => h) (Or.inl ⟨by rfl, ?hy192⟩) (by assumption) ?rest192
        case hy192 =>
          intro w9 hSw

          go_simp
          try with_reducible rfl
        try simp only [Act.put, List.setIfInBounds_toArray, List.set_cons_zero, List.set_cons_succ]
        refine wpAnyH_take (i := 25) (oi := ⟨some 118, .pick _ _ _, _, _, _, _⟩) (v := ?v193) rfl (by kernel_rfl) (by kernel_rfl) (by kernel_rfl) (fun _ _ _ h => h) (Or.inl ⟨by rfl, ?hy193⟩) (by assumption) ?rest193
        case hy193 =>
          intro w9 hSw

          go_simp
          try with_reducible rfl
        try simp only [Act.put, List.setIfInBounds_toArray, List.set_cons_zero, List.set_cons_succ]
        refine wpAnyH_done (by kernel_rfl) ?_ _
        have HG9 := Lib.hid (And.intro L4.out.ge L4.out.dv.2.1)
        clear L4 B4 hHeld
        generalize y3.drewN q4 = wE at HG9 ⊢
        go_wp2
        go_roundw
        case rel => exact ⟨1, by omega, by go_num, HG9.out⟩
        case measure => simp [intOf]
      · have c0 : wr.cell? ⟨w.heap.size, 0, none⟩ = some (.int .i64 conv) := HB.out.1.cell 0
        have c1 : wr.cell? ⟨w.heap.size, 1, none⟩ = some (.int .i64 soft) := HB.out.1.cell 1
        have c2 : wr.cell? ⟨w.heap.size, 2, none⟩ = some (.int .i64 seq) := HB.out.1.cell 2
        have c3 : wr.cell? ⟨w.heap.size, 3, none⟩ = some (.int .i64 size) := HB.out.1.cell 3
        have c4 : wr.cell? ⟨w.heap.size, 4, none⟩ = some (.int .i64 opn) := HB.out.1.cell 4
        go_wp2_with fail
        refine (lw_new HM.out.1 (w := w) (X := [w.heap.size]) HB.out.1 HB.out.2 (by have h1 := HB.out.1.lt; intro b hb; simp at hb; omega) (by simp)).mono ?_
        rintro e w3 ⟨d, rfl, hL, hb3⟩
        rw [HD0.out] at hL
        have L3 := Lib.hid hL
        clear hL hb3 HB c0 c1 c2 c3 c4
        go_wp2_with fail
        refine wp_region_held_drew (S := (fun w' => w'.cell? ⟨w.heap.size, 0, none⟩ = some (.int .i64 conv) ∧ w'.cell? ⟨w.heap.size, 1, none⟩ = some (.int .i64 soft) ∧ w'.cell? ⟨w.heap.size, 2, none⟩ = some (.int .i64 seq) ∧ w'.cell? ⟨w.heap.size, 3, none⟩ = some (.int .i64 size) ∧ w'.cell? ⟨w.heap.size, 4, none⟩ = some (.int .i64 opn))) (by kernel_rfl) ((L3.out.on (Below.refl _ _).drew).cells) (fun hHeld => ?_)
        refine wpAnyH_take (i := 0) (oi := ⟨some 57, .move _, _, _, _, _⟩) (v := ?v194) rfl (by kernel_rfl) (by kernel_rfl) (by kernel_rfl) (fun _ _ _ h => h) (Or.inl ⟨by rfl, ?hy194⟩) (by assumption) ?rest194
        case hy194 =>
          intro w hSw

          go_simp
          try with_reducible rfl
        try simp only [Act.put, List.setIfInBounds_toArray, List.set_cons_zero, List.set_cons_succ]
        refine wpAnyH_take (i := 1) (oi := ⟨some 58, .load _ _, _, _, _, _⟩) (v := ?v195) rfl (by kernel_rfl) (by kernel_rfl) (by kernel_rfl) (fun _ _ _ h => h) (Or.inl ⟨by rfl, ?hy195⟩) (by assumption) ?rest195
        case hy195 =>
          intro w hSw
          obtain ⟨hS0, hS1, hS2, hS3, hS4⟩ := hSw
          go_simp
          try with_reducible rfl
        try simp only [Act.put, List.setIfInBounds_toArray, List.set_cons_zero, List.set_cons_succ]
        refine wpAnyH_take (i := 2) (oi := ⟨some 59, .load _ _, _, _, _, _⟩) (v := ?v196) rfl (by kernel_rfl) (by kernel_rfl) (by kernel_rfl) (fun _ _ _ h => h) (Or.inl ⟨by rfl, ?hy196⟩) (by assumption) ?rest196
        case hy196 =>
          intro w hSw
          obtain ⟨hS0, hS1, hS2, hS3, hS4⟩ := hSw
          go_simp
          try with_reducible rfl
        try simp only [Act.put, List.setIfInBounds_toArray, List.set_cons_zero, List.set_cons_succ]
        refine wpAnyH_take (i := 3) (oi := ⟨some 60, .move _, _, _, _, _⟩) (v := ?v197) rfl (by kernel_rfl) (by kernel_rfl) (by kernel_rfl) (fun _ _ _ h => h) (Or.inl ⟨by rfl, ?hy197⟩) (by assumption) ?rest197
        case hy197 =>
          intro w hSw

          go_simp
          try with_reducible rfl
        try simp only [Act.put, List.setIfInBounds_toArray, List.set_cons_zero, List.set_cons_succ]
        refine wpAnyH_take (i := 5) (oi := ⟨some 62, .load _ _, _, _, _, _⟩) (v := ?v198) rfl (by kernel_rfl) (by kernel_rfl) (by kernel_rfl) (fun _ _ _ h => h) (Or.inl ⟨by rfl, ?hy198⟩) (by assumption) ?rest198
        case hy198 =>
          intro w hSw
          obtain ⟨hS0, hS1, hS2, hS3, hS4⟩ := hSw
          go_simp
          try with_reducible rfl
        try simp only [Act.put, List.setIfInBounds_toArray, List.set_cons_zero, List.set_cons_succ]
        refine wpAnyH_take (i := 6) (oi := ⟨some 63, .move _, _, _, _, _⟩) (v := ?v199) rfl (by kernel_rfl) (by kernel_rfl) (by kernel_rfl) (fun _ _ _ h => h) (Or.inl ⟨by rfl, ?hy199⟩) (by assumption) ?rest199
        case hy199 =>
          intro w hSw

          go_simp
          try with_reducible rfl
        try simp only [Act.put, List.setIfInBounds_toArray, List.set_cons_zero, List.set_cons_succ]
        refine wpAnyH_ready (rs := [4]) (by kernel_rfl) (by simp) ?_
        refine AllReadyH.cons (o := ⟨some 61, .call _, _, _, _, _⟩) rfl (fun K hK => ?_) AllReadyH.nil
        go_simp
        refine (HH2.out _).mono ?_
        rintro e y1 ⟨rfl, b1⟩
        have LY1 := Lib.hid (L3.out.on (bthen (Below.refl _ _).drew b1))
        clear b1
        go_wp2_with fail
        clear hHeld
        refine hK.out _ _ (LY1.out.cells) (fun hHeld => ?_)
        clear hK K
        try simp only [Act.put, List.setIfInBounds_toArray, List.set_cons_zero, List.set_cons_succ]
        refine wpAnyH_ready (rs := [7]) (by kernel_rfl) (by simp) ?_
        refine AllReadyH.cons (o := ⟨some 64, .call _, _, _, _, _⟩) rfl (fun K hK => ?_) AllReadyH.nil
        go_simp
        refine (HT2.out A2 cp2 _ ((HX2.out.2.2.below LY1.out.dv.2.1).more LY1.out.dv.2.1.size)).mono ?_
        rintro e y2 ⟨t2, g2, h2, ds2, rfl, hT, hbd, b2⟩
        have LY2 := Lib.hid (LY1.out.more b2 [t2, g2, h2] hbd)
        have TY2 := Lib.hid hT
        clear hT hbd b2
        go_wp2_with fail
        clear hHeld
        refine hK.out _ _ (LY2.out.cells) (fun hHeld => ?_)
        clear hK K
        try simp only [Act.put, List.setIfInBounds_toArray, List.set_cons_zero, List.set_cons_succ]
        refine wpAnyH_ready (rs := [8]) (by kernel_rfl) (by simp) ?_
        refine AllReadyH.cons (o := ⟨some 65, .call _, _, _, _, _⟩) rfl (fun K hK => ?_) AllReadyH.nil
        go_simp
        refine (lw_write HM.out.1 LY2.out m2 HSD0.out.n (by have := HM.out.2; omega) TY2.out (by simp) HNar2.out HR2.out.2).mono ?_
        rintro e w4 ⟨rfl, hl, hF⟩
        rw [HE1.out] at hl ⊢
        have L4 := Lib.hid (hl.less (X := [w.heap.size]) (by simp) (by simp))
        clear hl hF LY1 LY2 TY2
        go_wp2_with fail
        clear hHeld
        refine hK.out _ _ (L4.out.cells) (fun hHeld => ?_)
        clear hK K
        try simp only [Act.put, List.setIfInBounds_toArray, List.set_cons_zero, List.set_cons_succ]
        refine wpAnyH_take (i := 9) (oi := ⟨some 14, .assign _, _, _, _, _⟩) (v := ?v200) rfl (by kernel_rfl) (by kernel_rfl) (by kernel_rfl) (fun _ _ _ h => h) (Or.inl ⟨by rfl, ?hy200⟩) (by assumption) ?rest200
        case hy200 =>
          intro w hSw

          go_simp
          try with_reducible rfl
        try simp only [Act.put, List.setIfInBounds_toArray, List.set_cons_zero, List.set_cons_succ]
        refine wpAnyH_done (by kernel_rfl) ?_ _
        clear hHeld L3
        go_wp2_with fail
        refine wp_region_held_drew (S := (fun w' => w'.cell? ⟨w.heap.size, 0, none⟩ = some (.int .i64 conv) ∧ w'.cell? ⟨w.heap.size, 1, none⟩ = some (.int .i64 soft) ∧ w'.cell? ⟨w.heap.size, 2, none⟩ = some (.int .i64 seq) ∧ w'.cell? ⟨w.heap.size, 3, none⟩ = some (.int .i64 size) ∧ w'.cell? ⟨w.heap.size, 4, none⟩ = some (.int .i64 opn))) (by kernel_rfl) ((L4.out.on (Below.refl _ _).drew).cells) (fun hHeld => ?_)
        refine wpAnyH_take (i := 0) (oi := ⟨some 66, .move _, _, _, _, _⟩) (v := ?v201) rfl (by kernel_rfl) (by kernel_rfl) (by kernel_rfl) (fun _ _ _ h => h) (Or.inl ⟨by rfl, ?hy201⟩) (by assumption) ?rest201
        case hy201 =>
          intro w hSw

          go_simp
          try with_reducible rfl
        try simp only [Act.put, List.setIfInBounds_toArray, List.set_cons_zero, List.set_cons_succ]
        refine wpAnyH_take (i := 1) (oi := ⟨some 67, .load _ _, _, _, _, _⟩) (v := ?v202) rfl (by kernel_rfl) (by kernel_rfl) (by kernel_rfl) (fun _ _ _ h => h) (Or.inl ⟨by rfl, ?hy202⟩) (by assumption) ?rest202
        case hy202 =>
          intro w hSw
          obtain ⟨hS0, hS1, hS2, hS3, hS4⟩ := hSw
          go_simp
          try with_reducible rfl
        try simp only [Act.put, List.setIfInBounds_toArray, List.set_cons_zero, List.set_cons_succ]
        refine wpAnyH_take (i := 2) (oi := ⟨some 68, .load _ _, _, _, _, _⟩) (v := ?v203) rfl (by kernel_rfl) (by kernel_rfl) (by kernel_rfl) (fun _ _ _ h => h) (Or.inl ⟨by rfl, ?hy203⟩) (by assumption) ?rest203
        case hy203 =>
          intro w hSw
          obtain ⟨hS0, hS1, hS2, hS3, hS4⟩ := hSw
          go_simp
          try with_reducible rfl
        try simp only [Act.put, List.setIfInBounds_toArray, List.set_cons_zero, List.set_cons_succ]
        refine wpAnyH_take (i := 3) (oi := ⟨some 69, .move _, _, _, _, _⟩) (v := ?v204) rfl (by kernel_rfl) (by kernel_rfl) (by kernel_rfl) (fun _ _ _ h => h) (Or.inl ⟨by rfl, ?hy204⟩) (by assumption) ?rest204
        case hy204 =>
          intro w hSw

          go_simp
          try with_reducible rfl
        try simp only [Act.put, List.setIfInBounds_toArray, List.set_cons_zero, List.set_cons_succ]
        refine wpAnyH_take (i := 5) (oi := ⟨some 71, .load _ _, _, _, _, _⟩) (v := ?v205) rfl (by kernel_rfl) (by kernel_rfl) (by kernel_rfl) (fun _ _ _ h => h) (Or.inl ⟨by rfl, ?hy205⟩) (by assumption) ?rest205
        case hy205 =>
          intro w hSw
          obtain ⟨hS0, hS1, hS2, hS3, hS4⟩ := hSw
          go_simp
          try with_reducible rfl
        try simp only [Act.put, List.setIfInBounds_toArray, List.set_cons_zero, List.set_cons_succ]
        refine wpAnyH_take (i := 6) (oi := ⟨some 72, .move _, _, _, _, _⟩) (v := ?v206) rfl (by kernel_rfl) (by kernel_rfl) (by kernel_rfl) (fun _ _ _ h => h) (Or.inl ⟨by rfl, ?hy206⟩) (by assumption) ?rest206
        case hy206 =>
          intro w hSw

          go_simp
          try with_reducible rfl
        try simp only [Act.put, List.setIfInBounds_toArray, List.set_cons_zero, List.set_cons_succ]
        refine wpAnyH_ready (rs := [4]) (by kernel_rfl) (by simp) ?_
        refine AllReadyH.cons (o := ⟨some 70, .call _, _, _, _, _⟩) rfl (fun K hK => ?_) AllReadyH.nil
        go_simp
        refine (HH1.out _).mono ?_
        rintro e y1 ⟨rfl, b1⟩
        have LY1 := Lib.hid (L4.out.on (bthen (Below.refl _ _).drew b1))
        clear b1
        go_wp2_with fail
        clear hHeld
        refine hK.out _ _ (LY1.out.cells) (fun hHeld => ?_)
        clear hK K
        try simp only [Act.put, List.setIfInBounds_toArray, List.set_cons_zero, List.set_cons_succ]
        refine wpAnyH_ready (rs := [7]) (by kernel_rfl) (by simp) ?_
        refine AllReadyH.cons (o := ⟨some 73, .call _, _, _, _, _⟩) rfl (fun K hK => ?_) AllReadyH.nil
        go_simp
        refine (HT1.out A1 cp1 _ ((HX1.out.2.2.below LY1.out.dv.2.1).more LY1.out.dv.2.1.size)).mono ?_
        rintro e y2 ⟨t2, g2, h2, ds2, rfl, hT, hbd, b2⟩
        have LY2 := Lib.hid (LY1.out.more b2 [t2, g2, h2] hbd)
        have TY2 := Lib.hid hT
        clear hT hbd b2
        go_wp2_with fail
        clear hHeld
        refine hK.out _ _ (LY2.out.cells) (fun hHeld => ?_)
        clear hK K
        try simp only [Act.put, List.setIfInBounds_toArray, List.set_cons_zero, List.set_cons_succ]
        refine wpAnyH_ready (rs := [8]) (by kernel_rfl) (by simp) ?_
        refine AllReadyH.cons (o := ⟨some 74, .call _, _, _, _, _⟩) rfl (fun K hK => ?_) AllReadyH.nil
        go_simp
        refine (lw_write HM.out.1 LY2.out m1 HSD1.out.n (by have := HM.out.2; omega) TY2.out (by simp) HNar1.out HR1.out.2).mono ?_
        rintro e w5 ⟨rfl, hl, hF⟩
        rw [HE2.out] at hl ⊢
        have L5 := Lib.hid (hl.less (X := [w.heap.size]) (by simp) (by simp))
        clear hl hF LY1 LY2 TY2
        go_wp2_with fail
        clear hHeld
        refine hK.out _ _ (L5.out.cells) (fun hHeld => ?_)
        clear hK K
        try simp only [Act.put, List.setIfInBounds_toArray, List.set_cons_zero, List.set_cons_succ]
        refine wpAnyH_take (i := 9) (oi := ⟨some 15, .assign _, _, _, _, _⟩) (v := ?v207) rfl (by kernel_rfl) (by kernel_rfl) (by kernel_rfl) (fun _ _ _ h => h) (Or.inl ⟨by rfl, ?hy207⟩) (by assumption) ?rest207
        case hy207 =>
          intro w hSw

          go_simp
          try with_reducible rfl
        try simp only [Act.put, List.setIfInBounds_toArray, List.set_cons_zero, List.set_cons_succ]
        refine wpAnyH_done (by kernel_rfl) ?_ _
        clear hHeld L4
        go_wp2_with fail
        refine wp_region_held_drew (S := (fun w' => w'.cell? ⟨w.heap.size, 0, none⟩ = some (.int .i64 conv) ∧ w'.cell? ⟨w.heap.size, 1, none⟩ = some (.int .i64 soft) ∧ w'.cell? ⟨w.heap.size, 2, none⟩ = some (.int .i64 seq) ∧ w'.cell? ⟨w.heap.size, 3, none⟩ = some (.int .i64 size) ∧ w'.cell? ⟨w.heap.size, 4, none⟩ = some (.int .i64 opn))) (by kernel_rfl) ((L5.out.on (Below.refl _ _).drew).cells) (fun hHeld => ?_)
        refine wpAnyH_take (i := 0) (oi := ⟨some 77, .move _, _, _, _, _⟩) (v := ?v208) rfl (by kernel_rfl) (by kernel_rfl) (by kernel_rfl) (fun _ _ _ h => h) (Or.inl ⟨by rfl, ?hy208⟩) (by assumption) ?rest208
        case hy208 =>
          intro w hSw

          go_simp
          try with_reducible rfl
        try simp only [Act.put, List.setIfInBounds_toArray, List.set_cons_zero, List.set_cons_succ]
        refine wpAnyH_take (i := 1) (oi := ⟨some 78, .load _ _, _, _, _, _⟩) (v := ?v209) rfl (by kernel_rfl) (by kernel_rfl) (by kernel_rfl) (fun _ _ _ h => h) (Or.inl ⟨by rfl, ?hy209⟩) (by assumption) ?rest209
        case hy209 =>
          intro w hSw
          obtain ⟨hS0, hS1, hS2, hS3, hS4⟩ := hSw
          go_simp
          try with_reducible rfl
        try simp only [Act.put, List.setIfInBounds_toArray, List.set_cons_zero, List.set_cons_succ]
        refine wpAnyH_take (i := 2) (oi := ⟨some 79, .load _ _, _, _, _, _⟩) (v := ?v210) rfl (by kernel_rfl) (by kernel_rfl) (by kernel_rfl) (fun _ _ _ h => h) (Or.inl ⟨by rfl, ?hy210⟩) (by assumption) ?rest210
        case hy210 =>
          intro w hSw
          obtain ⟨hS0, hS1, hS2, hS3, hS4⟩ := hSw
          go_simp
          try with_reducible rfl
        try simp only [Act.put, List.setIfInBounds_toArray, List.set_cons_zero, List.set_cons_succ]
        refine wpAnyH_take (i := 3) (oi := ⟨some 80, .move _, _, _, _, _⟩) (v := ?v211) rfl (by kernel_rfl) (by kernel_rfl) (by kernel_rfl) (fun _ _ _ h => h) (Or.inl ⟨by rfl, ?hy211⟩) (by assumption) ?rest211
        case hy211 =>
          intro w hSw

          go_simp
          try with_reducible rfl
        try simp only [Act.put, List.setIfInBounds_toArray, List.set_cons_zero, List.set_cons_succ]
        refine wpAnyH_take (i := 5) (oi := ⟨some 82, .load _ _, _, _, _, _⟩) (v := ?v212) rfl (by kernel_rfl) (by kernel_rfl) (by kernel_rfl) (fun _ _ _ h => h) (Or.inl ⟨by rfl, ?hy212⟩) (by assumption) ?rest212
        case hy212 =>
          intro w hSw
          obtain ⟨hS0, hS1, hS2, hS3, hS4⟩ := hSw
          go_simp
          try with_reducible rfl
        try simp only [Act.put, List.setIfInBounds_toArray, List.set_cons_zero, List.set_cons_succ]
        refine wpAnyH_take (i := 6) (oi := ⟨some 83, .move _, _, _, _, _⟩) (v := ?v213) rfl (by kernel_rfl) (by kernel_rfl) (by kernel_rfl) (fun _ _ _ h => h) (Or.inl ⟨by rfl, ?hy213⟩) (by assumption) ?rest213
        case hy213 =>
          intro w hSw

          go_simp
          try with_reducible rfl
        try simp only [Act.put, List.setIfInBounds_toArray, List.set_cons_zero, List.set_cons_succ]
        refine wpAnyH_ready (rs := [4]) (by kernel_rfl) (by simp) ?_
        refine AllReadyH.cons (o := ⟨some 81, .call _, _, _, _, _⟩) rfl (fun K hK => ?_) AllReadyH.nil
        go_simp
        refine (HH2.out _).mono ?_
        rintro e y1 ⟨rfl, b1⟩
        have LY1 := Lib.hid (L5.out.on (bthen (Below.refl _ _).drew b1))
        clear b1
        go_wp2_with fail
        clear hHeld
        refine hK.out _ _ (LY1.out.cells) (fun hHeld => ?_)
        clear hK K
        try simp only [Act.put, List.setIfInBounds_toArray, List.set_cons_zero, List.set_cons_succ]
        refine wpAnyH_ready (rs := [7]) (by kernel_rfl) (by simp) ?_
        refine AllReadyH.cons (o := ⟨some 84, .call _, _, _, _, _⟩) rfl (fun K hK => ?_) AllReadyH.nil
        go_simp
        refine (HT2.out A2 cp2 _ ((HX2.out.2.2.below LY1.out.dv.2.1).more LY1.out.dv.2.1.size)).mono ?_
        rintro e y2 ⟨t2, g2, h2, ds2, rfl, hT, hbd, b2⟩
        have LY2 := Lib.hid (LY1.out.more b2 [t2, g2, h2] hbd)
        have TY2 := Lib.hid hT
        clear hT hbd b2
        go_wp2_with fail
        clear hHeld
        refine hK.out _ _ (LY2.out.cells) (fun hHeld => ?_)
        clear hK K
        try simp only [Act.put, List.setIfInBounds_toArray, List.set_cons_zero, List.set_cons_succ]
        refine wpAnyH_ready (rs := [8]) (by kernel_rfl) (by simp) ?_
        refine AllReadyH.cons (o := ⟨some 85, .call _, _, _, _, _⟩) rfl (fun K hK => ?_) AllReadyH.nil
        go_simp
        refine (lw_write HM.out.1 LY2.out m2 HSD2.out.n (by have := HM.out.2; omega) TY2.out (by simp) HNar2.out HR2.out.2).mono ?_
        rintro e w6 ⟨rfl, hl, hF⟩
        rw [HE3.out] at hl ⊢
        have L6 := Lib.hid (hl.less (X := [w.heap.size]) (by simp) (by simp))
        clear hl hF LY1 LY2 TY2
        go_wp2_with fail
        clear hHeld
        refine hK.out _ _ (L6.out.cells) (fun hHeld => ?_)
        clear hK K
        try simp only [Act.put, List.setIfInBounds_toArray, List.set_cons_zero, List.set_cons_succ]
        refine wpAnyH_take (i := 9) (oi := ⟨some 14, .assign _, _, _, _, _⟩) (v := ?v214) rfl (by kernel_rfl) (by kernel_rfl) (by kernel_rfl) (fun _ _ _ h => h) (Or.inl ⟨by rfl, ?hy214⟩) (by assumption) ?rest214
        case hy214 =>
          intro w hSw

          go_simp
          try with_reducible rfl
        try simp only [Act.put, List.setIfInBounds_toArray, List.set_cons_zero, List.set_cons_succ]
        refine wpAnyH_done (by kernel_rfl) ?_ _
        clear hHeld L5
        obtain ⟨c0, c1, c2, c3, c4⟩ := L6.out.cells
        go_wp2_with fail
        refine (lw_pick HM.out.1 L6.out HSD3.out.n.ok HSD3.out.od HSD3.out.up HSD3.out.so).mono ?_
        rw [HP3.out]
        rintro e wP ⟨hp, hF⟩
        unfold LwPk at hp
        obtain ⟨dt, gt, ht, rfl, htb, hL⟩ := hp
        have LP := Lib.hid hL
        have VP := Lib.hid htb
        clear hL hF htb c0 c1 c2 c3 c4 L6 
        simp only at VP
        go_wp2_with (first
          | ((with_reducible refine wpList_ms_alloc (o := ⟨some 16, .alloc _, _, _, _, _⟩) rfl rfl ?_); intro wD xD hBD hsD)
          | ((with_reducible refine wpList_ms_store (o := ⟨none, .store _ (.tmp 16) _, _, _, _, _⟩) rfl _ _ rfl wP.heap.size m2 Mast.m0 rfl rfl xD ?_); go_loud (intro wE xE hgE hsE; have KE := below_stored hBD hgE hBD.size (Nat.le_refl _); have LE := Lib.hid (LP.out.more KE [wP.heap.size] (by have h1 := hBD.size; have h2 := xE.lt; intro b hb; simp at hb; omega)); have BE := Lib.hid xE; have VE := Lib.hid (VP.out.on KE);  clear xD hBD hsD xE hgE hsE KE LP VP ; generalize wP.heap.size = b16 at *))
          | fail)
        refine wp_region_held_drew (S := (fun w' => Box w' b16 26 (mcs m2) ∧ w'.cell? ⟨w.heap.size, 0, none⟩ = some (.int .i64 conv) ∧ w'.cell? ⟨w.heap.size, 1, none⟩ = some (.int .i64 soft) ∧ w'.cell? ⟨w.heap.size, 2, none⟩ = some (.int .i64 seq) ∧ w'.cell? ⟨w.heap.size, 3, none⟩ = some (.int .i64 size) ∧ w'.cell? ⟨w.heap.size, 4, none⟩ = some (.int .i64 opn))) (by kernel_rfl) (⟨BE.out.on (Below.refl _ _).drew, (LE.out.on (Below.refl _ _).drew).cells⟩) (fun hHeld => ?_)
        refine wpAnyH_take (i := 0) (oi := ⟨some 93, .move _, _, _, _, _⟩) (v := ?v215) rfl (by kernel_rfl) (by kernel_rfl) (by kernel_rfl) (fun _ _ _ h => h) (Or.inl ⟨by rfl, ?hy215⟩) (by assumption) ?rest215
        case hy215 =>
          intro w9 hSw

          go_simp
          try with_reducible rfl
        try simp only [Act.put, List.setIfInBounds_toArray, List.set_cons_zero, List.set_cons_succ]
        refine wpAnyH_take (i := 1) (oi := ⟨some 94, .binOp _ _ _ _ _, _, _, _, _⟩) (v := ?v216) rfl (by kernel_rfl) (by kernel_rfl) (by kernel_rfl) (fun _ _ _ h => h) (Or.inl ⟨by rfl, ?hy216⟩) (by assumption) ?rest216
        case hy216 =>
          intro w9 hSw

          go_simp
          try with_reducible rfl
        try simp only [Act.put, List.setIfInBounds_toArray, List.set_cons_zero, List.set_cons_succ]
        refine wpAnyH_take (i := 2) (oi := ⟨some 95, .move _, _, _, _, _⟩) (v := ?v217) rfl (by kernel_rfl) (by kernel_rfl) (by kernel_rfl) (fun _ _ _ h => h) (Or.inl ⟨by rfl, ?hy217⟩) (by assumption) ?rest217
        case hy217 =>
          intro w9 hSw

          go_simp
          try with_reducible rfl
        try simp only [Act.put, List.setIfInBounds_toArray, List.set_cons_zero, List.set_cons_succ]
        refine wpAnyH_take (i := 3) (oi := ⟨some 96, .move _, _, _, _, _⟩) (v := ?v218) rfl (by kernel_rfl) (by kernel_rfl) (by kernel_rfl) (fun _ _ _ h => h) (Or.inl ⟨by rfl, ?hy218⟩) (by assumption) ?rest218
        case hy218 =>
          intro w9 hSw

          go_simp
          try with_reducible rfl
        try simp only [Act.put, List.setIfInBounds_toArray, List.set_cons_zero, List.set_cons_succ]
        refine wpAnyH_take (i := 4) (oi := ⟨some 97, .binOp _ _ _ _ _, _, _, _, _⟩) (v := ?v219) rfl (by kernel_rfl) (by kernel_rfl) (by kernel_rfl) (fun _ _ _ h => h) (Or.inl ⟨by rfl, ?hy219⟩) (by assumption) ?rest219
        case hy219 =>
          intro w9 hSw

          go_simp
          try with_reducible rfl
        try simp only [Act.put, List.setIfInBounds_toArray, List.set_cons_zero, List.set_cons_succ]
        refine wpAnyH_take (i := 5) (oi := ⟨some 98, .pick _ _ _, _, _, _, _⟩) (v := ?v220) rfl (by kernel_rfl) (by kernel_rfl) (by kernel_rfl) (fun _ _ _ h => h) (Or.inl ⟨by rfl, ?hy220⟩) (by assumption) ?rest220
        case hy220 =>
          intro w9 hSw

          go_simp
          try with_reducible rfl
        try simp only [Act.put, List.setIfInBounds_toArray, List.set_cons_zero, List.set_cons_succ]
        refine wpAnyH_take (i := 6) (oi := ⟨some 99, .move _, _, _, _, _⟩) (v := ?v221) rfl (by kernel_rfl) (by kernel_rfl) (by kernel_rfl) (fun _ _ _ h => h) (Or.inl ⟨by rfl, ?hy221⟩) (by assumption) ?rest221
        case hy221 =>
          intro w9 hSw

          go_simp
          try with_reducible rfl
        try simp only [Act.put, List.setIfInBounds_toArray, List.set_cons_zero, List.set_cons_succ]
        refine wpAnyH_take (i := 7) (oi := ⟨some 100, .move _, _, _, _, _⟩) (v := ?v222) rfl (by kernel_rfl) (by kernel_rfl) (by kernel_rfl) (fun _ _ _ h => h) (Or.inl ⟨by rfl, ?hy222⟩) (by assumption) ?rest222
        case hy222 =>
          intro w9 hSw

          go_simp
          try with_reducible rfl
        try simp only [Act.put, List.setIfInBounds_toArray, List.set_cons_zero, List.set_cons_succ]
        refine wpAnyH_take (i := 8) (oi := ⟨some 101, .binOp _ _ _ _ _, _, _, _, _⟩) (v := ?v223) rfl (by kernel_rfl) (by kernel_rfl) (by kernel_rfl) (fun _ _ _ h => h) (Or.inl ⟨by rfl, ?hy223⟩) (by assumption) ?rest223
        case hy223 =>
          intro w9 hSw

          go_simp
          try with_reducible rfl
        try simp only [Act.put, List.setIfInBounds_toArray, List.set_cons_zero, List.set_cons_succ]
        refine wpAnyH_take (i := 9) (oi := ⟨some 102, .pick _ _ _, _, _, _, _⟩) (v := ?v224) rfl (by kernel_rfl) (by kernel_rfl) (by kernel_rfl) (fun _ _ _ h => h) (Or.inl ⟨by rfl, ?hy224⟩) (by assumption) ?rest224
        case hy224 =>
          intro w9 hSw

          go_simp
          try with_reducible rfl
        try simp only [Act.put, List.setIfInBounds_toArray, List.set_cons_zero, List.set_cons_succ]
        refine wpAnyH_take (i := 10) (oi := ⟨some 103, .move _, _, _, _, _⟩) (v := ?v225) rfl (by kernel_rfl) (by kernel_rfl) (by kernel_rfl) (fun _ _ _ h => h) (Or.inl ⟨by rfl, ?hy225⟩) (by assumption) ?rest225
        case hy225 =>
          intro w9 hSw

          go_simp
          try with_reducible rfl
        try simp only [Act.put, List.setIfInBounds_toArray, List.set_cons_zero, List.set_cons_succ]
        refine wpAnyH_take (i := 11) (oi := ⟨some 104, .fieldAddr _ _ _, _, _, _, _⟩) (v := ?v226) rfl (by kernel_rfl) (by kernel_rfl) (by kernel_rfl) (fun _ _ _ h => h) (Or.inl ⟨by rfl, ?hy226⟩) (by assumption) ?rest226
        case hy226 =>
          intro w9 hSw

          go_simp
          try with_reducible rfl
        try simp only [Act.put, List.setIfInBounds_toArray, List.set_cons_zero, List.set_cons_succ]
        refine wpAnyH_take (i := 12) (oi := ⟨some 105, .load _ _, _, _, _, _⟩) (v := ?v227) rfl (by kernel_rfl) (by kernel_rfl) (by kernel_rfl) (fun _ _ _ h => h) (Or.inl ⟨by rfl, ?hy227⟩) (by assumption) ?rest227
        case hy227 =>
          intro w9 hSw
          have cm : w9.cell? ⟨b16, 1, none⟩ = some (.int .i64 m2.gen) := hSw.1.cell 1
          rw [HG2.out] at cm
          go_simp
          try with_reducible rfl
        try simp only [Act.put, List.setIfInBounds_toArray, List.set_cons_zero, List.set_cons_succ]
        refine wpAnyH_take (i := 13) (oi := ⟨some 106, .move _, _, _, _, _⟩) (v := ?v228) rfl (by kernel_rfl) (by kernel_rfl) (by kernel_rfl) (fun _ _ _ h => h) (Or.inl ⟨by rfl, ?hy228⟩) (by assumption) ?rest228
        case hy228 =>
          intro w9 hSw

          go_simp
          try with_reducible rfl
        try simp only [Act.put, List.setIfInBounds_toArray, List.set_cons_zero, List.set_cons_succ]
        refine wpAnyH_take (i := 14) (oi := ⟨some 107, .binOp _ _ _ _ _, _, _, _, _⟩) (v := ?v229) rfl (by kernel_rfl) (by kernel_rfl) (by kernel_rfl) (fun _ _ _ h => h) (Or.inl ⟨by rfl, ?hy229⟩) (by assumption) ?rest229
        case hy229 =>
          intro w9 hSw

          go_simp
          try with_reducible rfl
        try simp only [Act.put, List.setIfInBounds_toArray, List.set_cons_zero, List.set_cons_succ]
        refine wpAnyH_take (i := 15) (oi := ⟨some 108, .pick _ _ _, _, _, _, _⟩) (v := ?v230) rfl (by kernel_rfl) (by kernel_rfl) (by kernel_rfl) (fun _ _ _ h => h) (Or.inl ⟨by rfl, ?hy230⟩) (by assumption) ?rest230
        case hy230 =>
          intro w9 hSw

          go_simp
          try with_reducible rfl
        try simp only [Act.put, List.setIfInBounds_toArray, List.set_cons_zero, List.set_cons_succ]
        refine wpAnyH_take (i := 16) (oi := ⟨some 109, .move _, _, _, _, _⟩) (v := ?v231) rfl (by kernel_rfl) (by kernel_rfl) (by kernel_rfl) (fun _ _ _ h => h) (Or.inl ⟨by rfl, ?hy231⟩) (by assumption) ?rest231
        case hy231 =>
          intro w9 hSw

          go_simp
          try with_reducible rfl
        try simp only [Act.put, List.setIfInBounds_toArray, List.set_cons_zero, List.set_cons_succ]
        refine wpAnyH_take (i := 17) (oi := ⟨some 110, .move _, _, _, _, _⟩) (v := ?v232) rfl (by kernel_rfl) (by kernel_rfl) (by kernel_rfl) (fun _ _ _ h => h) (Or.inl ⟨by rfl, ?hy232⟩) (by assumption) ?rest232
        case hy232 =>
          intro w9 hSw

          go_simp
          try with_reducible rfl
        try simp only [Act.put, List.setIfInBounds_toArray, List.set_cons_zero, List.set_cons_succ]
        refine wpAnyH_take (i := 19) (oi := ⟨some 112, .load _ _, _, _, _, _⟩) (v := ?v233) rfl (by kernel_rfl) (by kernel_rfl) (by kernel_rfl) (fun _ _ _ h => h) (Or.inl ⟨by rfl, ?hy233⟩) (by assumption) ?rest233
        case hy233 =>
          intro w9 hSw
          obtain ⟨_, hS0, hS1, hS2, hS3, hS4⟩ := hSw
          go_simp
          try with_reducible rfl
        try simp only [Act.put, List.setIfInBounds_toArray, List.set_cons_zero, List.set_cons_succ]
        refine wpAnyH_take (i := 20) (oi := ⟨some 113, .move _, _, _, _, _⟩) (v := ?v234) rfl (by kernel_rfl) (by kernel_rfl) (by kernel_rfl) (fun _ _ _ h => h) (Or.inl ⟨by rfl, ?hy234⟩) (by assumption) ?rest234
        case hy234 =>
          intro w9 hSw

          go_simp
          try with_reducible rfl
        try simp only [Act.put, List.setIfInBounds_toArray, List.set_cons_zero, List.set_cons_succ]
        refine wpAnyH_ready (rs := [18]) (by kernel_rfl) (by simp) ?_
        refine AllReadyH.cons (o := ⟨some 111, .call _, _, _, _, _⟩) rfl (fun K hK => ?_) AllReadyH.nil
        go_simp
        refine (tplaces_any _ (VE.out.on (Below.refl _ _).drew)).mono ?_
        rintro e y1 ⟨z1, rfl, zb1, zl1, b1⟩
        have K1 := bthen (Below.refl _ _).drew b1
        have L1 := Lib.hid (LE.out.on K1)
        have B1 := Lib.hid (BE.out.on K1)
        have Z1 := Lib.hid zb1
        clear K1 b1 zb1 zl1 LE BE VE
        go_wp2_with fail
        clear hHeld
        refine hK.out _ _ (⟨B1.out, L1.out.cells⟩) (fun hHeld => ?_)
        clear hK K
        try simp only [Act.put, List.setIfInBounds_toArray, List.set_cons_zero, List.set_cons_succ]
        refine wpAnyH_ready (rs := [21]) (by kernel_rfl) (by simp) ?_
        refine AllReadyH.cons (o := ⟨some 114, .call _, _, _, _, _⟩) rfl (fun K hK => ?_) AllReadyH.nil
        go_simp
        refine (HT2.out A2 cp2 _ ((HX2.out.2.2.below L1.out.dv.2.1).more L1.out.dv.2.1.size)).mono ?_
        rintro e y2 ⟨t2, g2, h2, ds2, rfl, hT, hbd, b2⟩
        have L2 := Lib.hid (L1.out.on b2)
        have B2 := Lib.hid (B1.out.on b2)
        have Z2 := Lib.hid (Z1.out.on b2)
        have TY2 := Lib.hid hT
        clear hT hbd b2 L1 B1 Z1
        go_wp2_with fail
        clear hHeld
        refine hK.out _ _ (⟨B2.out, L2.out.cells⟩) (fun hHeld => ?_)
        clear hK K
        try simp only [Act.put, List.setIfInBounds_toArray, List.set_cons_zero, List.set_cons_succ]
        refine wpAnyH_ready (rs := [22]) (by kernel_rfl) (by simp) ?_
        refine AllReadyH.cons (o := ⟨some 115, .call _, _, _, _, _⟩) rfl (fun K hK => ?_) AllReadyH.nil
        go_simp
        refine (tplaces_any y2 TY2.out).mono ?_
        rintro e y3 ⟨z2, rfl, zb2, zl2, b3⟩
        have L3 := Lib.hid (L2.out.on b3)
        have B3 := Lib.hid (B2.out.on b3)
        have Z3 := Lib.hid (Z2.out.on b3)
        have Y3 := Lib.hid zb2
        clear zb2 zl2 b3 L2 B2 TY2 Z2
        go_wp2_with fail
        clear hHeld
        refine hK.out _ _ (⟨B3.out, L3.out.cells⟩) (fun hHeld => ?_)
        clear hK K
        try simp only [Act.put, List.setIfInBounds_toArray, List.set_cons_zero, List.set_cons_succ]
        refine wpAnyH_ready (rs := [23]) (by kernel_rfl) (by simp) ?_
        refine AllReadyH.cons (o := ⟨some 116, .call _, _, _, _, _⟩) rfl (fun K hK => ?_) AllReadyH.nil
        go_simp
        refine (isame_any (some ⟨z1, 0, none⟩) (some ⟨z2, 0, none⟩) n n n n y3 HNm.out HNm.out _ _ HTk2.out HTk2.out y3.heap.size (Z3.out.rd Z3.out.lt) (Y3.out.rd Y3.out.lt)).mono ?_
        rintro e y4 ⟨rfl, q4, rfl⟩
        have L4 := Lib.hid (L3.out.on (below_draws (Below.refl _ _) q4))
        have B4 := Lib.hid (B3.out.on (below_draws (Below.refl _ _) q4))
        clear L3 B3 Z3 Y3
        rw [beq_self_eq_true]
        go_wp2_with fail
        clear hHeld
        refine hK.out _ _ (⟨B4.out, L4.out.cells⟩) (fun hHeld => ?_)
        clear hK K
        try simp only [Act.put, List.setIfInBounds_toArray, List.set_cons_zero, List.set_cons_succ]
        refine wpAnyH_take (i := 24) (oi := ⟨some 117, .unOp _ _ _, _, _, _, _⟩) (v := ?v235) rfl (by kernel_rfl) (by kernel_rfl) (by kernel_rfl) (fun _ _ _ h => h) (Or.inl ⟨by rfl, ?hy235⟩) (by assumption) ?rest235
        case hy235 =>
          intro w9 hSw

          go_simp
          try with_reducible rfl
        try simp only [Act.put, List.setIfInBounds_toArray, List.set_cons_zero, List.set_cons_succ]
        refine wpAnyH_take (i := 25) (oi := ⟨some 118, .pick _ _ _, _, _, _, _⟩) (v := ?v236) rfl (by kernel_rfl) (by kernel_rfl) (by kernel_rfl) (fun _ _ _ h => h) (Or.inl ⟨by rfl, ?hy236⟩) (by assumption) ?rest236
        case hy236 =>
          intro w9 hSw

          go_simp
          try with_reducible rfl
        try simp only [Act.put, List.setIfInBounds_toArray, List.set_cons_zero, List.set_cons_succ]
        refine wpAnyH_done (by kernel_rfl) ?_ _
        have HG9 := Lib.hid (And.intro L4.out.ge L4.out.dv.2.1)
        clear L4 B4 hHeld
        generalize y3.drewN q4 = wE at HG9 ⊢
        go_wp2
        go_roundw
        case rel => exact ⟨2, by omega, by go_num, HG9.out⟩
        case measure => simp [intOf]
      · have HB9 := Lib.hid HB.out.2
        clear HB
        go_wp2
        go_ret
        exact ⟨rfl, HB9.out⟩

end Go.Proofs.Ytgnpohkippegpaa

/-
  CkN
-/
import Derived.Test.YtgnpohkippegpaaMg43
import Derived.Test.YtgnpohkippegpaaMg17
/-
  Layer 13's laws: the law Turns.
-/
namespace Go.Proofs.Ytgnpohkippegpaa
open Go.ChangeShapes Go.WideShapes
open Go.RowKit Geom Zone Dev Ckp Word
set_option linter.unusedVariables false

/-- a list of numbers that came in, in a row of lists -/
abbrev TL := Option Addr × Nat × Nat × List Int
abbrev slv (x : TL) : Value := .slice x.1 x.2.1 x.2.2.1
def TIn (w : World) (x : TL) : Prop := x.2.2.2.length = x.2.1 ∧ x.2.1 ≤ maxLen ∧ (∀ y ∈ x.2.2.2, 0 ≤ y ∧ y < 4294967296) ∧ Rd w w.heap.size x.1 (u32s x.2.2.2)
theorem rows_tables {w : World} : ∀ rows : List (List Value), (∀ r ∈ rows, r.length = 1 ∧ Has (.slice 1 (.int .u32)) w r) → ∃ xs : List TL, xs.length = rows.length ∧ rows.flatten = xs.map slv ∧ ∀ x ∈ xs, TIn w x
  | [], _ => ⟨[], rfl, rfl, by simp⟩
  | r :: rows, h => by
    obtain ⟨xs, h1, h2, h3⟩ := rows_tables rows fun x hx => h x (List.mem_cons_of_mem _ hx)
    obtain ⟨A, n, c, zs, rfl, q1, q2, q3, q4, q5⟩ := has_slice_ints (h r List.mem_cons_self).2
    refine ⟨(A, n, c, zs) :: xs, by simp [h1], by rw [List.flatten_cons, h2]; rfl, fun y hy => ?_⟩
    rcases List.mem_cons.1 hy with rfl | hy
    · exact ⟨q3, Nat.le_trans q1 q2, fun z hz => by have h := q5 z hz; simp [Lit.wf, IntKind.min, IntKind.max, IntKind.signed, IntKind.bits] at h; omega, q4⟩
    · exact h3 y hy
set_option maxRecDepth 100000 in
theorem open_tables {H : Type} {enc : TypeId × Value → H} {w : World} {base b0 : Nat} {r : Reach} {sp : Nat → Bool} {held : Bool} {v : Value} {d : DataW H} {ps : List MemPlace}
    (hu : Value.okWide Try.prog w r b0 56 v) (h : DataW.Trod enc Try.prog w base sp held 56 v d ps) :
    ∃ (A : Option Addr) (n cap : Nat) (xs : List TL), v = .slice A n cap ∧ n ≤ maxLen ∧ xs.length = n ∧ Rd w w.heap.size A (xs.map slv) ∧ ∀ x ∈ xs, TIn w x := by
  obtain ⟨a, len, cap, rfl⟩ := okWide_slice Try.underlying56 hu
  have hs := has_of (s := .slice 1 (.slice 1 (.int .u32))) 4 (by kernel_rfl) h
  obtain ⟨A, n, c, rows, h1, h2, h3, h4, h5, h6⟩ := hs
  obtain ⟨xs, h7, h8, h9⟩ := rows_tables rows h6
  have h10 : [Value.slice a len cap] = [.slice A n c] := h1
  obtain ⟨rfl, rfl, rfl⟩ : a = A ∧ len = n ∧ cap = c := by simpa using h10
  exact ⟨a, len, cap, xs, rfl, by omega, by omega, by rw [← h8]; exact h5, h9⟩
set_option maxRecDepth 100000 in
set_option maxHeartbeats 16000000 in
theorem cklaw_turns (conv soft seq size opn : Int) (A : Option Addr) (N cap : Nat) (xs : List TL) (w : World) (h64 : W64 conv ∧ W64 soft ∧ W64 seq ∧ W64 size ∧ W64 opn) (hm : N ≤ maxLen) (hxl : xs.length = N) (hxr : Rd w w.heap.size A (xs.map slv)) (hxi : ∀ x ∈ xs, TIn w x) :
    Calls Try.prog 5 #[gvl conv soft seq size opn, .slice A N cap] w fun e w' => e = .returned (.bool true) ∧ Below w.heap.size w w' := by
  have QW := Lib.hid fun w' => awake13_any w'
  have QL := Lib.hid fun w' => rcklittle_any conv soft seq size opn w' h64
  have HX := Lib.hid (And.intro hxl (And.intro hxr hxi))
  have hmN := hm
  unfold maxLen at hmN
  clear hxl hxr hxi hm
  clear h64
  go_enter Try.func5, Try.ntmps5
  go_wp2_with (first
    | ((with_reducible refine wpList_box_box _ (o := ⟨some 2, .box _ _, _, _, _, _⟩) rfl _ _ rfl (gcl conv soft seq size opn) rfl ?_); go_loud (intro w1 x0 hB0 hs0; have HB := Lib.hid (show Box w1 w.heap.size 23 (gcl conv soft seq size opn) ∧ Below w.heap.size w w1 from ⟨x0, hB0⟩); clear x0 hB0 hs0))
    | fail)
  refine (QW.out _).mono ?_
  rintro e wa ⟨rfl, hba⟩
  replace HB := Lib.hid (show Box wa w.heap.size 23 (gcl conv soft seq size opn) ∧ Below w.heap.size w wa from ⟨HB.out.1.on hba, bthen HB.out.2 hba⟩)
  clear hba
  have c0 : wa.cell? ⟨w.heap.size, 0, none⟩ = some (.int .i64 conv) := HB.out.1.cell 0
  have c1 : wa.cell? ⟨w.heap.size, 1, none⟩ = some (.int .i64 soft) := HB.out.1.cell 1
  have c2 : wa.cell? ⟨w.heap.size, 2, none⟩ = some (.int .i64 seq) := HB.out.1.cell 2
  have c3 : wa.cell? ⟨w.heap.size, 3, none⟩ = some (.int .i64 size) := HB.out.1.cell 3
  have c4 : wa.cell? ⟨w.heap.size, 4, none⟩ = some (.int .i64 opn) := HB.out.1.cell 4
  go_wp2_with fail
  refine (QL.out _).mono ?_
  rintro e wb ⟨rfl, hbb⟩
  replace HB := Lib.hid (show Box wb w.heap.size 23 (gcl conv soft seq size opn) ∧ Below w.heap.size w wb from ⟨HB.out.1.on hbb, bthen HB.out.2 hbb⟩)
  clear hbb c0 c1 c2 c3 c4
  cases hli : littleC conv soft seq size opn with
  | false =>
    go_wp2_with fail
    refine (QW.out _).mono ?_
    rintro e w9 ⟨rfl, hb9⟩
    have H9 := Lib.hid (bthen HB.out.2 hb9)
    clear hb9
    go_wp2
    go_ret
    exact ⟨rfl, H9.out⟩
  | true =>
    have HLi := Lib.hid (little_yes hli)
    clear hli QL
    by_cases h5 : 10 < N
    · have h5' : (10 : Int) < N := by omega
      go_wp2_with fail
      refine (QW.out _).mono ?_
      rintro e w9 ⟨rfl, hb9⟩
      have H9 := Lib.hid (bthen HB.out.2 hb9)
      clear hb9
      go_wp2
      go_ret
      exact ⟨rfl, H9.out⟩
    have h5' : ¬ (10 : Int) < N := by omega
    obtain ⟨n, P, M⟩ := msr_of HLi.out.1
    have hP9 := M.little HLi.out.2.1 HLi.out.2.2.1
    have HM := Lib.hid (And.intro M hP9)
    have HHk : Hid ((((conv + seq).toNat : Nat) : Int) = conv + seq) := Lib.hid (by have h1 := M.ok.1; have h2 := M.ok.2.1; omega)
    clear M hP9
    have sd0 := sd_new (k := (conv + seq).toNat) HM.out.1 HHk.out
    have HSD0 := Lib.hid (And.intro sd0 (And.intro (older_new (conv := conv) (soft := soft) (seq := seq) (size := size) (opn := opn) (k := (conv + seq).toNat) HM.out.1.hP) (show (newD conv soft seq size opn (conv + seq).toNat).ill = 0 from rfl)))
    have HNm : Hid (n ≤ maxLen) := Lib.hid (by have := HM.out.1.n4; unfold maxLen; omega)
    clear sd0
    generalize hD0 : newD conv soft seq size opn (conv + seq).toNat = D0 at HSD0
    have HD0 := Lib.hid hD0
    clear hD0
    have c0 : wb.cell? ⟨w.heap.size, 0, none⟩ = some (.int .i64 conv) := HB.out.1.cell 0
    have c1 : wb.cell? ⟨w.heap.size, 1, none⟩ = some (.int .i64 soft) := HB.out.1.cell 1
    have c2 : wb.cell? ⟨w.heap.size, 2, none⟩ = some (.int .i64 seq) := HB.out.1.cell 2
    have c3 : wb.cell? ⟨w.heap.size, 3, none⟩ = some (.int .i64 size) := HB.out.1.cell 3
    have c4 : wb.cell? ⟨w.heap.size, 4, none⟩ = some (.int .i64 opn) := HB.out.1.cell 4
    go_wp2_with fail
    refine (lw_new HM.out.1 (w := w) (X := [w.heap.size]) HB.out.1 HB.out.2 (by have h1 := HB.out.1.lt; intro b hb; simp at hb; omega) (by simp)).mono ?_
    rintro e w3 ⟨d, rfl, hL, hb3⟩
    rw [HD0.out] at hL
    have L3 := Lib.hid hL
    clear hL hb3 HB HD0 c0 c1 c2 c3 c4
    go_wp2_with fail
    go_loopw [6] (fun i wr => ∃ (k : Nat) (D : Dv), k ≤ N ∧ i = .int .i64 k ∧ (Sd (k * (P + 4)) P D ∧ Older D n P k ∧ D.ill = 0) ∧ LwSt w wr [w.heap.size] d D (gcl conv soft seq size opn)) (fun i _ => N - (intOf i).toNat)
    case atStart => exact ⟨0, D0, by omega, rfl, by rw [Nat.zero_mul]; exact HSD0.out, L3.out⟩
    case round =>
      clear HSD0 L3
      obtain ⟨k, D, hk, rfl, hsd, hL⟩ := hrel
      have HSD := Lib.hid hsd
      have L4 := Lib.hid hL
      clear hsd hL
      by_cases hlt : k < N
      · obtain ⟨x, hxk⟩ : ∃ x, xs[k]? = some x := ⟨xs[k]'(by rw [HX.out.1]; exact hlt), List.getElem?_eq_getElem _⟩
        have hxi := HX.out.2.2 x (List.mem_of_getElem? hxk)
        obtain ⟨A1, n1, cp1, zs⟩ := x
        obtain ⟨hz1, hz2, hz3, hz4⟩ := hxi
        simp only at hz1 hz2 hz3 hz4
        have hrk := HX.out.2.1.at (k := k) (u := .slice A1 n1 cp1) (by rw [List.getElem?_map, hxk]; rfl)
        obtain ⟨ad, rfl, had, hc0⟩ := hrk
        have HZ := Lib.hid (And.intro hz1 (And.intro hz3 hz4))
        have HRow := Lib.hid fun (W : World) (h : Below w.heap.size w W) => (h.cell (p := ad.add k) (by rw [addr_add_block]; exact had)).trans hc0
        have hml1 := hz2
        unfold maxLen at hml1
        clear hxk hz1 hz2 hz3 hz4 had hc0
        have hcr := HRow.out _ L4.out.dv.2.1
        by_cases h500 : 500 < n1
        · have h500' : (500 : Int) < n1 := by omega
          have HB9 := Lib.hid L4.out.dv.2.1
          go_wp2
          go_ret
          exact ⟨rfl, HB9.out⟩
        · have h500' : ¬ (500 : Int) < n1 := by omega
          have hk10 : k ≤ 9 := by omega
          have hq := Nat.mul_le_mul hk10 (show P + 4 ≤ 13 by have := HM.out.2; omega)
          have hq2 : (k + 1) * (P + 4) = k * (P + 4) + P + 4 := by rw [Nat.succ_mul, Nat.add_assoc]
          have HR := Lib.hid (head_yes (gen := (k : Int) + 1) (epoch := 1) (sq := (k : Int)) (P := P) (by omega) (by decide) (by omega) (by have := HM.out.2; omega))
          have HH := Lib.hid (lw_head HM.out.1 ((k : Int) + 1) 1 (k : Int))
          have HG : Hid ((hdM ((k : Int) + 1) 1 (k : Int) (P : Int)).gen = (k : Int) + 1) := Lib.hid rfl
          have HS : Hid ((hdM ((k : Int) + 1) 1 (k : Int) (P : Int)).seq = (k : Int)) := Lib.hid rfl
          generalize hdM ((k : Int) + 1) 1 (k : Int) (P : Int) = m at HR HH HG HS
          have ht := tabOk_of (n := n) HZ.out.2.1
          have HT := Lib.hid fun (W : World) (hr : Rd W W.heap.size A1 (u32s zs)) => lw_table HM.out.1 n1 cp1 A1 zs W HZ.out.1 HZ.out.2.1 hr
          generalize tabY n zs = ys at ht HT
          obtain ⟨D5, e5, sd5, i5, p5, o5, _, _⟩ := turn_core HSD.out.1 (by have := HM.out.2; omega) HM.out.1.hP HM.out.1.n4 HR.out.1 HR.out.2 ht HSD.out.2.1 (by rw [HG.out]; omega)
          rw [HG.out] at o5
          have HSD5 := Lib.hid sd5
          have HNx : Hid (Sd ((k + 1) * (P + 4)) P D5 ∧ Older D5 n P ((k + 1 : Nat) : Int) ∧ D5.ill = 0) := Lib.hid ⟨by rw [hq2]; exact sd5, by rw [show ((k + 1 : Nat) : Int) = (k : Int) + 1 by omega]; exact o5, i5.trans HSD.out.2.2⟩
          have HE := Lib.hid e5
          have HP5 := Lib.hid p5
          have HNar := Lib.hid ht.nar
          have HTk := Lib.hid (show (ys.take n).length = n by have := ht.len; have := Tbl.pages_up n; simp; omega)
          have HQ := Lib.hid hq
          clear ht e5 sd5 i5 p5 o5 hq hq2
          have hw1 : IntKind.i64.wrap ((k : Int) + 1) = (k : Int) + 1 := IntWalk.i64_in _ (by omega)
          go_wp2_with fail
          refine wp_region_held_drew (S := (fun w' => w'.cell? (ad.add k) = some (.slice A1 n1 cp1) ∧ w'.cell? ⟨w.heap.size, 0, none⟩ = some (.int .i64 conv) ∧ w'.cell? ⟨w.heap.size, 1, none⟩ = some (.int .i64 soft) ∧ w'.cell? ⟨w.heap.size, 2, none⟩ = some (.int .i64 seq) ∧ w'.cell? ⟨w.heap.size, 3, none⟩ = some (.int .i64 size) ∧ w'.cell? ⟨w.heap.size, 4, none⟩ = some (.int .i64 opn))) (by kernel_rfl) (⟨HRow.out _ (L4.out.on (Below.refl _ _).drew).dv.2.1, (L4.out.on (Below.refl _ _).drew).cells⟩) (fun hHeld => ?_)
          refine wpAnyH_take (i := 0) (oi := ⟨some 38, .load _ _, _, _, _, _⟩) (v := ?v158) rfl (by kernel_rfl) (by kernel_rfl) (by kernel_rfl) (fun _ _ _ h => h) (Or.inl ⟨by rfl, ?hy158⟩) (by assumption) ?rest158
          case hy158 =>
            intro w9 hSw
            obtain ⟨_, hS0, hS1, hS2, hS3, hS4⟩ := hSw
            go_simp
            try with_reducible rfl
          try simp only [Act.put, List.setIfInBounds_toArray, List.set_cons_zero, List.set_cons_succ]
          refine wpAnyH_take (i := 1) (oi := ⟨some 39, .move _, _, _, _, _⟩) (v := ?v159) rfl (by kernel_rfl) (by kernel_rfl) (by kernel_rfl) (fun _ _ _ h => h) (Or.inl ⟨by rfl, ?hy159⟩) (by assumption) ?rest159
          case hy159 =>
            intro w9 hSw

            go_simp
            try with_reducible rfl
          try simp only [Act.put, List.setIfInBounds_toArray, List.set_cons_zero, List.set_cons_succ]
          refine wpAnyH_take (i := 2) (oi := ⟨some 40, .move _, _, _, _, _⟩) (v := ?v160) rfl (by kernel_rfl) (by kernel_rfl) (by kernel_rfl) (fun _ _ _ h => h) (Or.inl ⟨by rfl, ?hy160⟩) (by assumption) ?rest160
          case hy160 =>
            intro w9 hSw

            go_simp
            try with_reducible rfl
          try simp only [Act.put, List.setIfInBounds_toArray, List.set_cons_zero, List.set_cons_succ]
          refine wpAnyH_take (i := 3) (oi := ⟨some 41, .indexAddr _ _ _, _, _, _, _⟩) (v := ?v161) rfl (by kernel_rfl) (by kernel_rfl) (by kernel_rfl) (fun _ _ _ h => h) (Or.inl ⟨by rfl, ?hy161⟩) (by assumption) ?rest161
          case hy161 =>
            intro w9 hSw

            go_simp
            try with_reducible rfl
          try simp only [Act.put, List.setIfInBounds_toArray, List.set_cons_zero, List.set_cons_succ]
          refine wpAnyH_take (i := 4) (oi := ⟨some 42, .load _ _, _, _, _, _⟩) (v := ?v162) rfl (by kernel_rfl) (by kernel_rfl) (by kernel_rfl) (fun _ _ _ h => h) (Or.inl ⟨by rfl, ?hy162⟩) (by assumption) ?rest162
          case hy162 =>
            intro w9 hSw
            obtain ⟨hcr, _⟩ := hSw
            go_simp
            try with_reducible rfl
          try simp only [Act.put, List.setIfInBounds_toArray, List.set_cons_zero, List.set_cons_succ]
          refine wpAnyH_ready (rs := [5]) (by kernel_rfl) (by simp) ?_
          refine AllReadyH.cons (o := ⟨some 43, .call _, _, _, _, _⟩) rfl (fun K hK => ?_) AllReadyH.nil
          go_simp
          refine (HT.out _ ((HZ.out.2.2.below (bthen L4.out.dv.2.1 (Below.refl _ _).drew)).more L4.out.dv.2.1.size)).mono ?_
          rintro e y1 ⟨t2, g2, h2, ds2, rfl, hT, hbd, b2⟩
          have L5 := Lib.hid ((L4.out.on (Below.refl _ _).drew).more b2 [t2, g2, h2] hbd)
          have T5 := Lib.hid hT
          clear hT hbd b2
          go_wp2_with fail
          clear hHeld
          refine hK.out _ _ (⟨HRow.out _ L5.out.dv.2.1, L5.out.cells⟩) (fun hHeld => ?_)
          clear hK K
          try simp only [Act.put, List.setIfInBounds_toArray, List.set_cons_zero, List.set_cons_succ]
          refine wpAnyH_take (i := 6) (oi := ⟨some 7, .assign _, _, _, _, _⟩) (v := ?v163) rfl (by kernel_rfl) (by kernel_rfl) (by kernel_rfl) (fun _ _ _ h => h) (Or.inl ⟨by rfl, ?hy163⟩) (by assumption) ?rest163
          case hy163 =>
            intro w9 hSw

            go_simp
            try with_reducible rfl
          try simp only [Act.put, List.setIfInBounds_toArray, List.set_cons_zero, List.set_cons_succ]
          refine wpAnyH_done (by kernel_rfl) ?_ _
          clear hHeld L4 hcr
          go_wp2_with fail
          refine wp_region_held_drew (S := (fun w' => w'.cell? ⟨w.heap.size, 0, none⟩ = some (.int .i64 conv) ∧ w'.cell? ⟨w.heap.size, 1, none⟩ = some (.int .i64 soft) ∧ w'.cell? ⟨w.heap.size, 2, none⟩ = some (.int .i64 seq) ∧ w'.cell? ⟨w.heap.size, 3, none⟩ = some (.int .i64 size) ∧ w'.cell? ⟨w.heap.size, 4, none⟩ = some (.int .i64 opn))) (by kernel_rfl) ((L5.out.on (Below.refl _ _).drew).cells) (fun hHeld => ?_)
          refine wpAnyH_take (i := 0) (oi := ⟨some 44, .move _, _, _, _, _⟩) (v := ?v164) rfl (by kernel_rfl) (by kernel_rfl) (by kernel_rfl) (fun _ _ _ h => h) (Or.inl ⟨by rfl, ?hy164⟩) (by assumption) ?rest164
          case hy164 =>
            intro w9 hSw

            go_simp
            try with_reducible rfl
          try simp only [Act.put, List.setIfInBounds_toArray, List.set_cons_zero, List.set_cons_succ]
          refine wpAnyH_take (i := 1) (oi := ⟨some 45, .load _ _, _, _, _, _⟩) (v := ?v165) rfl (by kernel_rfl) (by kernel_rfl) (by kernel_rfl) (fun _ _ _ h => h) (Or.inl ⟨by rfl, ?hy165⟩) (by assumption) ?rest165
          case hy165 =>
            intro w9 hSw
            obtain ⟨hS0, hS1, hS2, hS3, hS4⟩ := hSw
            go_simp
            try with_reducible rfl
          try simp only [Act.put, List.setIfInBounds_toArray, List.set_cons_zero, List.set_cons_succ]
          refine wpAnyH_take (i := 2) (oi := ⟨some 46, .load _ _, _, _, _, _⟩) (v := ?v166) rfl (by kernel_rfl) (by kernel_rfl) (by kernel_rfl) (fun _ _ _ h => h) (Or.inl ⟨by rfl, ?hy166⟩) (by assumption) ?rest166
          case hy166 =>
            intro w9 hSw
            obtain ⟨hS0, hS1, hS2, hS3, hS4⟩ := hSw
            go_simp
            try with_reducible rfl
          try simp only [Act.put, List.setIfInBounds_toArray, List.set_cons_zero, List.set_cons_succ]
          refine wpAnyH_take (i := 3) (oi := ⟨some 47, .move _, _, _, _, _⟩) (v := ?v167) rfl (by kernel_rfl) (by kernel_rfl) (by kernel_rfl) (fun _ _ _ h => h) (Or.inl ⟨by rfl, ?hy167⟩) (by assumption) ?rest167
          case hy167 =>
            intro w9 hSw

            go_simp
            try with_reducible rfl
          try simp only [Act.put, List.setIfInBounds_toArray, List.set_cons_zero, List.set_cons_succ]
          refine wpAnyH_take (i := 4) (oi := ⟨some 48, .binOp _ _ _ _ _, _, _, _, _⟩) (v := ?v168) rfl (by kernel_rfl) (by kernel_rfl) (by kernel_rfl) (fun _ _ _ h => h) (Or.inl ⟨by rfl, ?hy168⟩) (by assumption) ?rest168
          case hy168 =>
            intro w9 hSw

            go_simp
            try with_reducible rfl
          try simp only [Act.put, List.setIfInBounds_toArray, List.set_cons_zero, List.set_cons_succ]
          refine wpAnyH_take (i := 5) (oi := ⟨some 49, .move _, _, _, _, _⟩) (v := ?v169) rfl (by kernel_rfl) (by kernel_rfl) (by kernel_rfl) (fun _ _ _ h => h) (Or.inl ⟨by rfl, ?hy169⟩) (by assumption) ?rest169
          case hy169 =>
            intro w9 hSw

            go_simp
            try with_reducible rfl
          try simp only [Act.put, List.setIfInBounds_toArray, List.set_cons_zero, List.set_cons_succ]
          refine wpAnyH_take (i := 7) (oi := ⟨some 51, .move _, _, _, _, _⟩) (v := ?v170) rfl (by kernel_rfl) (by kernel_rfl) (by kernel_rfl) (fun _ _ _ h => h) (Or.inl ⟨by rfl, ?hy170⟩) (by assumption) ?rest170
          case hy170 =>
            intro w9 hSw

            go_simp
            try with_reducible rfl
          try simp only [Act.put, List.setIfInBounds_toArray, List.set_cons_zero, List.set_cons_succ]
          refine wpAnyH_ready (rs := [6]) (by kernel_rfl) (by simp) ?_
          refine AllReadyH.cons (o := ⟨some 50, .call _, _, _, _, _⟩) rfl (fun K hK => ?_) AllReadyH.nil
          go_simp
          refine (HH.out _).mono ?_
          rintro e y1 ⟨rfl, b1⟩
          have K1 := bthen (Below.refl _ _).drew b1
          have L6 := Lib.hid (L5.out.on K1)
          have T6 := Lib.hid (T5.out.on K1)
          clear K1 b1 L5 T5
          go_wp2_with fail
          clear hHeld
          refine hK.out _ _ (L6.out.cells) (fun hHeld => ?_)
          clear hK K
          try simp only [Act.put, List.setIfInBounds_toArray, List.set_cons_zero, List.set_cons_succ]
          refine wpAnyH_ready (rs := [8]) (by kernel_rfl) (by simp) ?_
          refine AllReadyH.cons (o := ⟨some 52, .call _, _, _, _, _⟩) rfl (fun K hK => ?_) AllReadyH.nil
          go_simp
          refine (lw_write HM.out.1 L6.out m HSD.out.1.n (by have := HM.out.2; have := HQ.out; omega) T6.out (by simp) HNar.out HR.out.2).mono ?_
          rintro e w7 ⟨rfl, hl, hF⟩
          rw [HE.out] at hl ⊢
          have L7 := Lib.hid hl
          have T7 := Lib.hid (T6.out.tx hF (by simp))
          clear hl hF L6 T6
          go_wp2_with fail
          clear hHeld
          refine hK.out _ _ (L7.out.cells) (fun hHeld => ?_)
          clear hK K
          try simp only [Act.put, List.setIfInBounds_toArray, List.set_cons_zero, List.set_cons_succ]
          refine wpAnyH_take (i := 9) (oi := ⟨some 53, .binOp _ _ _ _ _, _, _, _, _⟩) (v := ?v171) rfl (by kernel_rfl) (by kernel_rfl) (by kernel_rfl) (fun _ _ _ h => h) (Or.inl ⟨by rfl, ?hy171⟩) (by assumption) ?rest171
          case hy171 =>
            intro w9 hSw

            go_simp
            try with_reducible rfl
          try simp only [Act.put, List.setIfInBounds_toArray, List.set_cons_zero, List.set_cons_succ]
          refine wpAnyH_done (by kernel_rfl) ?_ _
          clear hHeld
          obtain ⟨c0, c1, c2, c3, c4⟩ := L7.out.cells
          go_wp2_with fail
          refine (lw_pick HM.out.1 L7.out HSD5.out.n.ok HSD5.out.od HSD5.out.up HSD5.out.so).mono ?_
          rw [HP5.out]
          rintro e wP ⟨hp, hF⟩
          unfold LwPk at hp
          obtain ⟨dt, gt, ht, rfl, htb, hL⟩ := hp
          have LP := Lib.hid hL
          have VP := Lib.hid htb
          have T7P := Lib.hid (T7.out.tx hF (by simp))
          clear hL hF htb c0 c1 c2 c3 c4 L7 T7
          simp only at VP
          go_wp2_with (first
            | ((with_reducible refine wpList_ms_alloc (o := ⟨some 8, .alloc _, _, _, _, _⟩) rfl rfl ?_); intro wD xD hBD hsD)
            | ((with_reducible refine wpList_ms_store (o := ⟨none, .store _ (.tmp 8) _, _, _, _, _⟩) rfl _ _ rfl wP.heap.size m Mast.m0 rfl rfl xD ?_); go_loud (intro wE xE hgE hsE; have KE := below_stored hBD hgE hBD.size (Nat.le_refl _); have LE := Lib.hid (LP.out.more KE [wP.heap.size] (by have h1 := hBD.size; have h2 := xE.lt; intro b hb; simp at hb; omega)); have BE := Lib.hid xE; have cg : wE.cell? ⟨wP.heap.size, 1, none⟩ = some (.int .i64 ((k : Int) + 1)) := by { rw [← HG.out]; exact xE.cell 1 }; have cs : wE.cell? ⟨wP.heap.size, 3, none⟩ = some (.int .i64 (k : Int)) := by { rw [← HS.out]; exact xE.cell 3 }; have VE := Lib.hid (VP.out.on KE); have T7E := Lib.hid (T7P.out.on KE); clear xD hBD hsD xE hgE hsE KE LP VP T7P; generalize wP.heap.size = b8 at *))
            | fail)
          refine (tplaces_any wE VE.out).mono ?_
          rintro e wF ⟨z1, rfl, zb1, zl1, b1⟩
          have LF := Lib.hid (LE.out.on b1)
          have TF := Lib.hid (T7E.out.on b1)
          have ZF := Lib.hid zb1
          clear zb1 zl1 b1 LE BE VE T7E cg cs
          go_wp2_with fail
          refine (tplaces_any wF TF.out).mono ?_
          rintro e wG ⟨z2, rfl, zb2, zl2, b2⟩
          have LG := Lib.hid (LF.out.on b2)
          have ZG := Lib.hid (ZF.out.on b2)
          have YG := Lib.hid zb2
          clear zb2 zl2 b2 LF TF ZF
          go_wp2_with fail
          refine (isame_any (some ⟨z1, 0, none⟩) (some ⟨z2, 0, none⟩) n n n n wG HNm.out HNm.out _ _ HTk.out HTk.out wG.heap.size (ZG.out.rd ZG.out.lt) (YG.out.rd YG.out.lt)).mono ?_
          rintro e wH ⟨rfl, q4, rfl⟩
          have LH := Lib.hid ((LG.out.on (below_draws (Below.refl _ _) q4)).less (X := [w.heap.size]) (by simp) (by simp))
          clear LG ZG YG
          rw [beq_self_eq_true]
          go_wp2
          go_roundw
          case rel => exact ⟨k + 1, D5, by omega, by go_num, HNx.out, LH.out⟩
          case measure => simp [intOf]; omega
      · obtain ⟨zv, lb, cv, nb, hb⟩ := L4.out.dv.blk
        have HI := Lib.hid (illegal_any hb)
        rw [HSD.out.2.2] at HI
        have HB9 := Lib.hid L4.out.dv.2.1
        clear hb HSD L4
        go_wp2_with fail
        refine HI.out.mono ?_
        rintro e w9 ⟨rfl, rfl⟩
        go_wp2
        go_ret
        exact ⟨rfl, HB9.out⟩

end Go.Proofs.Ytgnpohkippegpaa

/-
  The walk of the law RecBack.
-/
import Derived.Test.YtaeekopdfaocoaaRecG
import Derived.Test.YtaeekopdfaocoaaCrcJ
import Derived.IntWalk
namespace Go.Proofs.Ytaeekopdfaocoaa
open Go.RowKit Word Crc Rec
set_option linter.unusedVariables false

/-- a record, and the bytes that turn, in variables of their own -/
def BkSt (w W : World) (r : Rc) (ws : List Int) : Prop := Box W w.heap.size 25 (rcs r) ∧ Box W (w.heap.size + 1) 38 (bs ws) ∧ Below w.heap.size w W ∧ w.heap.size + 2 ≤ W.heap.size
theorem BkSt.on {w W W' : World} {r : Rc} {ws : List Int} (h : BkSt w W r ws) (hb : Below W.heap.size W W') : BkSt w W' r ws := ⟨h.1.on hb, h.2.1.on hb, bthen h.2.2.1 hb, Nat.le_trans h.2.2.2 hb.size⟩
theorem BkSt.start {w w1 w2 : World} {r : Rc} {ws : List Int} (x0 : Box w1 w.heap.size 25 (rcs r)) (hB1 : Below w.heap.size w w1) (hs1 : w1.heap.size = w.heap.size + 1) (x1 : Box w2 w1.heap.size 38 (bs ws)) (hB2 : Below w1.heap.size w1 w2) (hs2 : w2.heap.size = w1.heap.size + 1) : BkSt w w2 r ws := by
  rw [hs1] at x1
  exact ⟨x0.below hB2 (by omega), x1, bthen hB1 hB2, by omega⟩
/-- the sector beside them, and what was read of it, and the turned sector -/
def BkSt3 (w W : World) (r : Rc) (ws : List Int) (b7 : Nat) (p : List Int) (b8 b10 : Nat) (q : List Int) : Prop :=
  BkSt w W r ws ∧ Box W b7 29 (bs p) ∧ Box W b8 25 (rcs r) ∧ Box W b10 29 (bs q) ∧ w.heap.size + 2 ≤ b7 ∧ b7 < b10 ∧ b8 < b10
theorem BkSt3.on {w W W' : World} {r : Rc} {ws : List Int} {b7 b8 b10 : Nat} {p q : List Int} (h : BkSt3 w W r ws b7 p b8 b10 q) (hb : Below W.heap.size W W') : BkSt3 w W' r ws b7 p b8 b10 q :=
  ⟨h.1.on hb, h.2.1.on hb, h.2.2.1.on hb, h.2.2.2.1.on hb, h.2.2.2.2⟩
theorem BkSt3.drewN {w W : World} {r : Rc} {ws : List Int} {b7 b8 b10 : Nat} {p q : List Int} (h : BkSt3 w W r ws b7 p b8 b10 q) (k : Nat) : BkSt3 w (W.drewN k) r ws b7 p b8 b10 q :=
  h.on (below_draws (Below.refl _ _) k)
theorem BkSt3.set {w W : World} {r : Rc} {ws : List Int} {b7 b8 b10 : Nat} {p q : List Int} (h : BkSt3 w W r ws b7 p b8 b10 q) (n : Nat) (v : Int) : BkSt3 w (W.setCell ⟨b10, n, none⟩ (.int .u8 v)) r ws b7 p b8 b10 (q.set n v) := by
  obtain ⟨⟨h1, h2, h3, h4⟩, h5, h6, h7, h8, h9, h10⟩ := h
  have e : ∀ x, x ≠ b10 → (W.setCell ⟨b10, n, none⟩ (.int .u8 v)).heap[x]? = W.heap[x]? := fun x hx => heap_setCell_other _ _ _ _ hx
  refine ⟨⟨h1.same (e _ (by omega)), h2.same (e _ (by omega)), h3.setCell (by show w.heap.size ≤ b10; omega) _, by simpa [World.setCell] using h4⟩, h5.same (e _ (by omega)), h6.same (e _ (by omega)), ?_, h8, h9, h10⟩
  have := h7.set n (.int .u8 v)
  rwa [← bs_set] at this

set_option maxRecDepth 100000 in
set_option maxHeartbeats 4000000 in
theorem law_back (r : Rc) (at_ : Int) (ws : List Int) (w : World) (hi : In r) (ha : 0 ≤ at_ ∧ at_ ≤ 255) (h4 : ws.length = 4) (hw : octets ws) :
    Calls Try.prog 5 #[.agg (rcs r).toArray, .int .u8 at_, .agg (bs ws).toArray] w fun e w' => e = .returned (.bool true) ∧ Below w.heap.size w w' := by
  obtain ⟨m, hm, hsz⟩ := big_size (P := Try.prog) (t := 29) (s := 64) (by kernel_rfl)
  obtain ⟨mr, hmr, hszr⟩ := big_size (P := Try.prog) (t := 25) (s := 37) (by kernel_rfl)
  have hm0 : ¬ m = 0 := by omega
  have hmr0 : ¬ mr = 0 := by omega
  obtain ⟨k, hk, hk1⟩ : ∃ k : Nat, at_ % 61 = k ∧ k ≤ 60 := ⟨(at_ % 61).toNat, by omega, by omega⟩
  have ha0 := ha.1
  have ha1 := ha.2
  have HI := Lib.hid hi
  have HM := Lib.hid (And.intro hm hmr)
  have HW := Lib.hid (And.intro h4 hw)
  have QA := Lib.hid fun w' => recright_any r w' hi
  clear ha hm hmr hi h4 hw
  have LA := Lib.hid fun (W : World) (L : BkSt w W r ws) => big_load0 Try.prog w.heap.size 0 (rcs r) mr (by rw [rcs_length HI.out.1, HM.out.2]) W L.1.range0
  go_enter Try.func5, Try.ntmps5
  go_wp2_with (first
    | ((with_reducible refine wpList_rc_box (o := ⟨some 3, .box _ _, _, _, _, _⟩) rfl _ rfl r rfl ?_); intro w1 x0 hB1 hs1)
    | ((with_reducible refine wpList_box_box _ (o := ⟨some 5, .box _ _, _, _, _, _⟩) rfl _ _ rfl (bs ws) rfl ?_); intro w2 x1 hB2 hs2; have L := BkSt.start x0 hB1 hs1 x1 hB2 hs2; rw [hs1]; clear hs1 hs2 x0 x1 hB1 hB2)
    | fail)
  refine (awake6_any _).mono ?_
  rintro e w3 ⟨rfl, hb3⟩
  have HL := Lib.hid (L.on hb3)
  clear hb3 L
  have la := LA.out _ HL.out
  cases hka : okB r with
  | false =>
    rw [hka] at QA
    clear hka
    go_wp2_with fail
    refine (QA.out _).mono ?_
    rintro e w4 ⟨rfl, hb4⟩
    replace HL := Lib.hid (HL.out.on hb4)
    clear hb4
    go_wp2_with fail
    refine (awake6_any _).mono ?_
    rintro e w5 ⟨rfl, hb5⟩
    replace HL := Lib.hid (HL.out.on hb5)
    clear hb5
    go_wp2
    go_ret
    exact ⟨rfl, HL.out.2.2.1⟩
  | true =>
    rw [hka] at QA
    have hok : Ok r := of_decide_eq_true hka
    have HLay := Lib.hid fun w' => lay_any r w' hok HI.out
    have HRead := Lib.hid fun w' => read_any (layL r) w' (layL_length r HI.out.1) (layL_octets hok HI.out.2)
    rw [read_lay hok HI.out] at HRead
    have HPl := Lib.hid (And.intro (layL_length r HI.out.1) (And.intro (layL_octets hok HI.out.2) (layL_right hok HI.out.2)))
    clear hka hok
    generalize layL r = p at *
    go_wp2_with fail
    refine (QA.out _).mono ?_
    rintro e w4 ⟨rfl, hb4⟩
    replace HL := Lib.hid (HL.out.on hb4)
    clear hb4 la QA
    have la := LA.out _ HL.out
    go_wp2_with fail
    refine (HLay.out _).mono ?_
    rintro e w5 ⟨rfl, hb5⟩
    replace HL := Lib.hid (HL.out.on hb5)
    clear hb5 la HLay
    go_wp2_with (first
      | ((with_reducible refine wpList_pg_alloc (o := ⟨some 7, .alloc _, _, _, _, _⟩) rfl rfl ?_); intro w6 x6 hB6 _)
      | ((with_reducible refine wpList_pg_store (o := ⟨none, .store _ _ _, _, _, _, _⟩) rfl _ _ rfl w5.heap.size p pg0 HPl.out.1 rfl rfl rfl x6 ?_); intro w7 x7 hg7 _; have hp7 := big_load0 Try.prog w5.heap.size 0 (bs p) m (by rw [bs_length, HPl.out.1, HM.out.1]) w7 x7.range0)
      | fail)
    have h57 := below_stored hB6 hg7 hB6.size (Nat.le_refl _)
    have hb7 := HL.out.2.2.2
    have HL7 := Lib.hid (And.intro (HL.out.on h57) x7)
    clear x6 hB6 x7 hg7 h57 HL
    generalize w5.heap.size = b7 at *
    refine (HRead.out _).mono ?_
    rintro e w8 ⟨rfl, hb8⟩
    have HL8 := Lib.hid (And.intro (HL7.out.1.on hb8) (And.intro (HL7.out.2.on hb8) (show b7 < w8.heap.size from Nat.lt_of_lt_of_le HL7.out.2.lt hb8.size)))
    clear hb8 HL7 HRead hp7
    go_wp2_with (first
      | ((with_reducible refine wpList_rc_alloc (o := ⟨some 8, .alloc _, _, _, _, _⟩) rfl rfl ?_); intro w9 x9 hB9 hs9)
      | ((with_reducible refine wpList_rc_store (o := ⟨none, .store 25 _ _, _, _, _, _⟩) rfl _ _ rfl w8.heap.size r rc0 HI.out rc0_in rfl rfl x9 ?_); intro w10 x10 hg10 hs10; have h810 := below_stored hB9 hg10 hB9.size (Nat.le_refl _); have hp10 := big_load0 Try.prog b7 0 (bs p) m (by rw [bs_length, HPl.out.1, HM.out.1]) w10 (HL8.out.2.1.on h810).range0)
      | ((with_reducible refine wpList_pg_alloc (o := ⟨some 10, .alloc _, _, _, _, _⟩) rfl rfl ?_); intro w11 x11 hB11 hs11)
      | ((with_reducible refine wpList_pg_store (o := ⟨none, .store 29 _ _, _, _, _, _⟩) rfl _ _ rfl w10.heap.size p pg0 HPl.out.1 rfl rfl rfl x11 ?_); intro w12 x12 hg12 hs12)
      | fail)
    have HL := Lib.hid (show BkSt3 w w12 r ws b7 p w8.heap.size (w8.heap.size + 1) p from by
      have h1012 := below_stored hB11 hg12 hB11.size (Nat.le_refl _)
      have hb1 : w10.heap.size = w8.heap.size + 1 := by omega
      have k1 := HL8.out.1.on (bthen h810 h1012)
      have k2 := HL8.out.2.1.on (bthen h810 h1012)
      have k3 := x10.on h1012
      rw [hb1] at x12
      have := HL8.out.2.2
      exact ⟨k1, k2, k3, x12, hb7, by omega, by omega⟩)
    clear x9 hB9 hs9 x10 hg10 hs10 h810 hp10 x11 hB11 hs11 x12 hg12 hs12 hb7 HL8
    rw [hk]
    have HK := Lib.hid hk
    have HK1 := Lib.hid hk1
    clear hk ha0 ha1
    generalize w8.heap.size = b8 at *
    go_loopw [12] (fun i wr => ∃ j : Nat, j ≤ 4 ∧ i = .int .i64 j ∧ BkSt3 w wr r ws b7 p b8 (b8 + 1) (turn p ws k j)) (fun i _ => 4 - (intOf i).toNat)
    case atStart => exact ⟨0, by omega, rfl, HL.out⟩
    case round =>
      clear HL
      obtain ⟨j, hj, rfl, L⟩ := hrel
      have htl : (turn p ws k j).length = 64 := (turn_length p ws k j).trans HPl.out.1
      by_cases hj4 : j < 4
      · have hx := bits_xor8 (octets_getD (turn_octets HPl.out.2.1 HW.out.2 k j) (k + j)) (octets_getD HW.out.2 j)
        have HX := Lib.hid (show (turn p ws k j).set (k + j) (xor8 ((turn p ws k j).getD (k + j) 0) (ws.getD j 0)) = turn p ws k (j + 1) from rfl)
        have hsum : IntKind.i64.wrap ((k : Int) + (j : Int)) = (k : Int) + (j : Int) := IntWalk.i64_in _ (by omega)
        have HT := Lib.hid htl
        clear htl
        go_wp2
        refine wp_region_class_tail (fun w' => BkSt3 w w' r ws b7 p b8 (b8 + 1) (turn p ws k j)) 10 (by kernel_rfl) (by kernel_rfl) (L.drewN 1) ?_
        intro X hX f hf hg
        have c0 := fun x => ((hf x).2.2.2.1.cell (k + j)).trans (bs_get (by rw [HT.out]; omega))
        have c1 := fun x => ((hf x).1.2.1.cell j).trans (bs_get (by rw [HW.out.1]; exact hj4))
        have Hf := Lib.hid hf
        have Hg := Lib.hid hg
        clear hf hg L
        generalize hx0 : (turn p ws k j).getD (k + j) 0 = x0 at c0 hx HX
        have HX0 := Lib.hid hx0
        clear hx0
        generalize ws.getD j 0 = y at c1 hx HX
        generalize xor8 x0 y = z at hx HX
        simp only [List.take_succ_cons, List.take_zero, List.drop_succ_cons, List.drop_zero]
        repeat (go_big_quiet_step (fail))
        refine wpQuiet_nil ?_
        rintro _ ⟨x', rfl⟩
        have HL := Lib.hid (Hf.out x')
        have f0 := HL.out.2.2.2.1.frozen (k + j)
        have c0' := c0 x'
        clear c0 c1 Hf Hg
        generalize f x' = W at HL c0' f0 ⊢
        go_wp2
        go_roundw
        case rel =>
          refine ⟨j + 1, by omega, by go_num, ?_⟩
          rw [← HX.out]
          exact HL.out.set (k + j) z
        case measure => simp [intOf]; omega
      · obtain rfl : j = 4 := by omega
        have hqo := turn_octets HPl.out.2.1 HW.out.2 k 4
        have HQ := Lib.hid (And.intro htl hqo)
        have HTw := Lib.hid (turn_wrong HPl.out.2.1 HW.out.2 HW.out.1 (k := k) (by rw [HPl.out.1]; have := HK1.out; omega) HPl.out.2.2)
        clear htl hqo
        generalize turn p ws k 4 = q at *
        have hq10 := big_load0 Try.prog (b8 + 1) 0 (bs q) m (by rw [bs_length, HQ.out.1, HM.out.1]) wr L.2.2.2.1.range0
        have HL := Lib.hid L
        clear L
        go_wp2_with fail
        refine (read_any q _ HQ.out.1 HQ.out.2).mono ?_
        rintro e w13 ⟨rfl, hb13⟩
        replace HL := Lib.hid (HL.out.on hb13)
        clear hb13 hq10
        have HI2 := Lib.hid (read_in HQ.out.1 HQ.out.2)
        have HR8 := Lib.hid (show rightB q = false → readS q = (rc0, 8) from fun h => by unfold readS; rw [if_pos h])
        generalize readS q = rs at HI2 HR8 ⊢
        obtain ⟨r2, er⟩ := rs
        simp only at HI2 HR8 ⊢
        cases heq : (q == p) with
        | true =>
          have hq := fun w' => pg_equal w' q p HQ.out.1 HPl.out.1
          have hr := fun w' => equal_rec w' r r HI.out HI.out
          rw [heq] at hq
          rw [(rcEq_iff r r).2 rfl] at hr
          have hg1 := pg_guard
          have hg2 := guard_rec
          clear heq HTw HR8
          go_wp2_with (first
            | ((with_reducible refine wpList_rc_alloc (o := ⟨some 13, .alloc _, _, _, _, _⟩) rfl rfl ?_); intro w14 x14 hB14 hs14)
            | ((with_reducible refine wpList_rc_store (o := ⟨none, .store _ _ _, _, _, _, _⟩) rfl _ _ rfl w13.heap.size r2 rc0 HI2.out rc0_in rfl rfl x14 ?_); intro w15 x15 hg15 hs15; have HLL := Lib.hid (HL.out.on (below_stored hB14 hg15 hB14.size (Nat.le_refl _))); have l8 := big_load0 Try.prog b8 0 (rcs r) mr (by rw [rcs_length HI.out.1, HM.out.2]) w15 HLL.out.2.2.1.range0; have l0 := LA.out w15 HLL.out.1; have l10 := big_load0 Try.prog (b8 + 1) 0 (bs q) m (by rw [bs_length, HQ.out.1, HM.out.1]) w15 HLL.out.2.2.2.1.range0; have l7 := big_load0 Try.prog b7 0 (bs p) m (by rw [bs_length, HPl.out.1, HM.out.1]) w15 HLL.out.2.1.range0; clear x14 hB14 hs14 x15 hg15 hs15)
            | fail)
          go_ret
          exact ⟨rfl, HLL.out.1.2.2.1⟩
        | false =>
          have hq := fun w' => pg_equal w' q p HQ.out.1 HPl.out.1
          have hr := fun w' => equal_rec w' r r HI.out HI.out
          rw [(rcEq_iff r r).2 rfl] at hr
          have hg1 := pg_guard
          have hg2 := guard_rec
          have hnr : rightB q = false := by
            cases h : rightB q with
            | false => rfl
            | true => rw [HTw.out h] at heq; simp at heq
          obtain ⟨rfl, rfl⟩ : r2 = rc0 ∧ er = 8 := by have := HR8.out hnr; injection this with h1 h2; exact ⟨h1, h2⟩
          rw [heq] at hq
          clear heq HTw HR8 hnr
          go_wp2_with (first
            | ((with_reducible refine wpList_rc_alloc (o := ⟨some 13, .alloc _, _, _, _, _⟩) rfl rfl ?_); intro w14 x14 hB14 hs14)
            | ((with_reducible refine wpList_rc_store (o := ⟨none, .store _ _ _, _, _, _, _⟩) rfl _ _ rfl w13.heap.size rc0 rc0 HI2.out rc0_in rfl rfl x14 ?_); intro w15 x15 hg15 hs15; have HLL := Lib.hid (HL.out.on (below_stored hB14 hg15 hB14.size (Nat.le_refl _))); have l8 := big_load0 Try.prog b8 0 (rcs r) mr (by rw [rcs_length HI.out.1, HM.out.2]) w15 HLL.out.2.2.1.range0; have l0 := LA.out w15 HLL.out.1; have l10 := big_load0 Try.prog (b8 + 1) 0 (bs q) m (by rw [bs_length, HQ.out.1, HM.out.1]) w15 HLL.out.2.2.2.1.range0; have l7 := big_load0 Try.prog b7 0 (bs p) m (by rw [bs_length, HPl.out.1, HM.out.1]) w15 HLL.out.2.1.range0; clear x14 hB14 hs14 x15 hg15 hs15)
            | fail)
          go_ret
          exact ⟨rfl, HLL.out.1.2.2.1⟩
end Go.Proofs.Ytaeekopdfaocoaa

/-
  The walk of the law RecReads.
-/
import Derived.Test.YtaeekopdfaocoaaRecN
import Derived.Test.YtaeekopdfaocoaaRecH
namespace Go.Proofs.Ytaeekopdfaocoaa
open Go.RowKit Word Crc Rec
set_option linter.unusedVariables false

set_option maxRecDepth 100000 in
set_option maxHeartbeats 4000000 in
theorem law_reads (p : List Int) (b : Bool) (w : World) (hl : p.length = 64) (hp : octets p) :
    Calls Try.prog 4 #[.agg (bs p).toArray, .bool b] w fun e w' => e = .returned (.bool true) ∧ Below w.heap.size w w' := by
  obtain ⟨m, hm, hsz⟩ := big_size (P := Try.prog) (t := 29) (s := 64) (by kernel_rfl)
  obtain ⟨mr, hmr, hszr⟩ := big_size (P := Try.prog) (t := 25) (s := 37) (by kernel_rfl)
  have hm0 : ¬ m = 0 := by omega
  have hmr0 : ¬ mr = 0 := by omega
  have HP := Lib.hid (And.intro hl hp)
  have HM := Lib.hid (And.intro hm hmr)
  have LP := Lib.hid fun (W : World) (q : List Int) (hq : q.length = 64) (L : OneSt w W q) => big_load0 Try.prog w.heap.size 0 (bs q) m (by rw [bs_length, hq, HM.out.1]) W L.1.range0
  clear hm hmr hl hp
  go_enter Try.func4, Try.ntmps4
  go_wp2_with (first
    | ((with_reducible refine wpList_pg_box (o := ⟨some 2, .box _ _, _, _, _, _⟩) rfl _ rfl p rfl ?_); intro w1 x0 hB1 hs1)
    | fail)
  have HL := Lib.hid (show OneSt w w1 p from ⟨x0, hB1⟩)
  clear x0 hB1 hs1
  refine (awake6_any _).mono ?_
  rintro e w2 ⟨rfl, hb2⟩
  replace HL := Lib.hid (HL.out.on hb2)
  clear hb2
  cases b with
  | true =>
    have hld := LP.out _ _ HP.out.1 HL.out
    have HQ := Lib.hid (And.intro (sealedP_length HP.out.1) (sealedP_octets HP.out.2))
    go_wp2_with fail
    refine (lawsealed_any p _ HP.out.1 HP.out.2).mono ?_
    rintro e w3 ⟨rfl, hb3⟩
    replace HL := Lib.hid (HL.out.on hb3)
    have HX := Lib.hid HL.out.1
    clear hb3 hld
    generalize sealedP p = sp at HQ ⊢
    go_wp2_with (first
      | ((with_reducible refine wpList_pg_store (o := ⟨none, .store _ _ _, _, _, _, _⟩) rfl _ _ rfl w.heap.size sp p HQ.out.1 HP.out.1 rfl rfl HX.out ?_); intro w4 x4 hg4 _; have HL := Lib.hid (OneSt.store HL.out x4 hg4); clear x4 hg4; have hld := LP.out _ _ HQ.out.1 HL.out)
      | fail)
    refine (read_any sp _ HQ.out.1 HQ.out.2).mono ?_
    rintro e w5 ⟨rfl, hb5⟩
    replace HL := Lib.hid (HL.out.on hb5)
    clear hb5 hld
    have hld := LP.out _ _ HQ.out.1 HL.out
    have HI := Lib.hid (read_in HQ.out.1 HQ.out.2)
    have HRR := Lib.hid fun w' => rread_any sp w' HQ.out.1 HQ.out.2
    rw [read_eq HQ.out.1 HQ.out.2] at HRR
    generalize readS sp = rs at HI HRR ⊢
    obtain ⟨r, er⟩ := rs
    simp only at HI HRR ⊢
    generalize hqq : sp = q at *
    clear hqq
    go_wp2_with (first
      | ((with_reducible refine wpList_rc_alloc (o := ⟨some 5, .alloc _, _, _, _, _⟩) rfl rfl ?_); intro w6 x6 hB6 _)
      | ((with_reducible refine wpList_rc_store (o := ⟨none, .store _ _ _, _, _, _, _⟩) rfl _ _ rfl w5.heap.size r rc0 HI.out rc0_in rfl rfl x6 ?_); intro w7 x7 hg7 _; have h57 := below_stored hB6 hg7 hB6.size (Nat.le_refl _); have HL2 := Lib.hid (show OneSt2 w w7 q w5.heap.size r from ⟨HL.out.on h57, x7⟩); have hld7 := LP.out _ _ HQ.out.1 HL2.out.1)
      | fail)
    clear x6 hB6 x7 hg7 h57 HL hld
    generalize w5.heap.size = bx at *
    refine (HRR.out _).mono ?_
    rintro e w8 ⟨rfl, hb8⟩
    replace HL2 := Lib.hid (HL2.out.on hb8)
    clear hb8 hld7 HRR
    have hq := fun w' => equal_rec w' r r HI.out HI.out
    rw [(rcEq_iff r r).2 rfl] at hq
    have hgd := guard_rec
    have hee : (er == er) = true := by simp
    go_wp2_with (first
      | ((with_reducible refine wpList_rc_alloc (o := ⟨some 7, .alloc _, _, _, _, _⟩) rfl rfl ?_); intro w9 x9 hB9 _)
      | ((with_reducible refine wpList_rc_store (o := ⟨none, .store _ _ _, _, _, _, _⟩) rfl _ _ rfl w8.heap.size r rc0 HI.out rc0_in rfl rfl x9 ?_); intro w10 x10 hg10 _; have h810 := below_stored hB9 hg10 hB9.size (Nat.le_refl _); have HL3 := Lib.hid (HL2.out.on h810); have l1 := big_load0 Try.prog bx 0 (rcs r) mr (by rw [rcs_length HI.out.1, HM.out.2]) w10 HL3.out.2.range0; have l2 := big_load0 Try.prog w8.heap.size 0 (rcs r) mr (by rw [rcs_length HI.out.1, HM.out.2]) w10 x10.range0)
      | fail)
    go_ret
    exact ⟨ret_bool (by simp), HL3.out.1.2⟩
  | false =>
    have HQ := HP
    have hld := LP.out _ _ HQ.out.1 HL.out
    go_wp2_with fail
    refine (read_any p _ HQ.out.1 HQ.out.2).mono ?_
    rintro e w5 ⟨rfl, hb5⟩
    replace HL := Lib.hid (HL.out.on hb5)
    clear hb5 hld
    have hld := LP.out _ _ HQ.out.1 HL.out
    have HI := Lib.hid (read_in HQ.out.1 HQ.out.2)
    have HRR := Lib.hid fun w' => rread_any p w' HQ.out.1 HQ.out.2
    rw [read_eq HQ.out.1 HQ.out.2] at HRR
    generalize readS p = rs at HI HRR ⊢
    obtain ⟨r, er⟩ := rs
    simp only at HI HRR ⊢
    generalize hqq : p = q at *
    clear hqq
    go_wp2_with (first
      | ((with_reducible refine wpList_rc_alloc (o := ⟨some 5, .alloc _, _, _, _, _⟩) rfl rfl ?_); intro w6 x6 hB6 _)
      | ((with_reducible refine wpList_rc_store (o := ⟨none, .store _ _ _, _, _, _, _⟩) rfl _ _ rfl w5.heap.size r rc0 HI.out rc0_in rfl rfl x6 ?_); intro w7 x7 hg7 _; have h57 := below_stored hB6 hg7 hB6.size (Nat.le_refl _); have HL2 := Lib.hid (show OneSt2 w w7 q w5.heap.size r from ⟨HL.out.on h57, x7⟩); have hld7 := LP.out _ _ HQ.out.1 HL2.out.1)
      | fail)
    clear x6 hB6 x7 hg7 h57 HL hld
    generalize w5.heap.size = bx at *
    refine (HRR.out _).mono ?_
    rintro e w8 ⟨rfl, hb8⟩
    replace HL2 := Lib.hid (HL2.out.on hb8)
    clear hb8 hld7 HRR
    have hq := fun w' => equal_rec w' r r HI.out HI.out
    rw [(rcEq_iff r r).2 rfl] at hq
    have hgd := guard_rec
    have hee : (er == er) = true := by simp
    go_wp2_with (first
      | ((with_reducible refine wpList_rc_alloc (o := ⟨some 7, .alloc _, _, _, _, _⟩) rfl rfl ?_); intro w9 x9 hB9 _)
      | ((with_reducible refine wpList_rc_store (o := ⟨none, .store _ _ _, _, _, _, _⟩) rfl _ _ rfl w8.heap.size r rc0 HI.out rc0_in rfl rfl x9 ?_); intro w10 x10 hg10 _; have h810 := below_stored hB9 hg10 hB9.size (Nat.le_refl _); have HL3 := Lib.hid (HL2.out.on h810); have l1 := big_load0 Try.prog bx 0 (rcs r) mr (by rw [rcs_length HI.out.1, HM.out.2]) w10 HL3.out.2.range0; have l2 := big_load0 Try.prog w8.heap.size 0 (rcs r) mr (by rw [rcs_length HI.out.1, HM.out.2]) w10 x10.range0)
      | fail)
    go_ret
    exact ⟨ret_bool (by simp), HL3.out.1.2⟩
end Go.Proofs.Ytaeekopdfaocoaa

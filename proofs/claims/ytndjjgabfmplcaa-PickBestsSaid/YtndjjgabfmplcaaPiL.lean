/-
  The laws Betters and Bests of layer 16.
-/
import Derived.Test.YtndjjgabfmplcaaPiG
namespace Go.Proofs.Ytndjjgabfmplcaa
open Go.RowKit Pick
set_option linter.unusedVariables false

set_option maxRecDepth 100000 in
set_option maxHeartbeats 4000000 in
theorem pilaw_betters (a b : Cd) (n p : Int) (w : World) (hn : 0 ≤ n ∧ n ≤ 255) :
    Calls Try.prog 3 #[.agg (kcs a).toArray, .agg (kcs b).toArray, .int .u8 n, .int .i64 p] w fun e w' => e = .returned (.bool true) ∧ Below w.heap.size w w' := by
  obtain ⟨az, al, aa⟩ := a
  obtain ⟨bz, bl, ba⟩ := b
  have HT := Lib.hid (TwoK.new w ⟨az, al, aa⟩ ⟨bz, bl, ba⟩)
  have QW := Lib.hid fun w' => awake16_any w'
  have HSz : Hid (∀ w, Calls Try.prog 9 #[.int .u8 n] w fun e w' => e = .returned (.int .i64 (1 + n)) ∧ w = w') := Lib.hid fun w => size_any n w hn
  have HMa : Hid (∀ w, Calls Try.prog 8 #[kv az al aa, .int .i64 (1 + n)] w fun e w' => e = .returned (.bool (decide (May (1 + n) ⟨az, al, aa⟩))) ∧ Below w.heap.size w w') := Lib.hid fun w => rmay_any _ ⟨az, al, aa⟩ w
  have HMb : Hid (∀ w, Calls Try.prog 8 #[kv bz bl ba, .int .i64 (1 + n)] w fun e w' => e = .returned (.bool (decide (May (1 + n) ⟨bz, bl, ba⟩))) ∧ Below w.heap.size w w') := Lib.hid fun w => rmay_any _ ⟨bz, bl, ba⟩ w
  by_cases hma : May (1 + n) ⟨az, al, aa⟩
  · by_cases hmb : May (1 + n) ⟨bz, bl, ba⟩
    · rw [decide_eq_true hma] at HMa
      rw [decide_eq_true hmb] at HMb
      have HPb : Hid (∀ w, Calls Try.prog 10 #[kv az al aa, kv bz bl ba, .int .i64 (1 + n), .int .i64 p] w fun e w' => e = .returned (.bool (decide (Bet (1 + n) p ⟨az, al, aa⟩ ⟨bz, bl, ba⟩))) ∧ Below w.heap.size w w') := Lib.hid fun w => pbetter_any _ p ⟨az, al, aa⟩ ⟨bz, bl, ba⟩ w (size_size hn) hma hmb
      have HRb : Hid (∀ w, Calls Try.prog 11 #[kv az al aa, kv bz bl ba, .int .i64 (1 + n), .int .i64 p] w fun e w' => e = .returned (.bool (decide (Bet (1 + n) p ⟨az, al, aa⟩ ⟨bz, bl, ba⟩))) ∧ Below w.heap.size w w') := Lib.hid fun w => rbetter_any _ p ⟨az, al, aa⟩ ⟨bz, bl, ba⟩ w (size_size hn) hma hmb
      generalize decide (Bet (1 + n) p ⟨az, al, aa⟩ ⟨bz, bl, ba⟩) = bet at *
      clear hma hmb hn
      go_enter Try.func3, Try.ntmps3
      go_wp2_with fail
      generalize World.alloc _ _ = w0 at HT ⊢
      refine wp_region_class (fun w' => TwoK w w' w.heap.size (w.heap.size + 1) ⟨az, al, aa⟩ ⟨bz, bl, ba⟩) (by kernel_rfl) (by kernel_rfl) HT.out.drew ?_
      intro X hX f hf hg
      have a0 : ∀ x, (f x).cell? ⟨w.heap.size, 0, none⟩ = some (.int .i64 az) := fun x => (hf x).1.kd.1
      have a1 : ∀ x, (f x).cell? ⟨w.heap.size, 1, none⟩ = some (.int .i64 al) := fun x => (hf x).1.kd.2.1
      have a2 : ∀ x, (f x).cell? ⟨w.heap.size, 2, none⟩ = some (.int .i64 aa) := fun x => (hf x).1.kd.2.2
      have b0 : ∀ x, (f x).cell? ⟨w.heap.size + 1, 0, none⟩ = some (.int .i64 bz) := fun x => (hf x).2.1.kd.1
      have b1 : ∀ x, (f x).cell? ⟨w.heap.size + 1, 1, none⟩ = some (.int .i64 bl) := fun x => (hf x).2.1.kd.2.1
      have b2 : ∀ x, (f x).cell? ⟨w.heap.size + 1, 2, none⟩ = some (.int .i64 ba) := fun x => (hf x).2.1.kd.2.2
      have Hf := Lib.hid hf
      have Hg := Lib.hid hg
      clear hf hg
      repeat (go_big_quiet_step (first
        | (go_at_call 7; with_reducible (exact calls_class (QW.out _) (fun _ hb => Hg.out _ ((Hf.out _).on hb))))
        | (go_at_call 9; with_reducible (exact calls_class (HSz.out _) (fun _ hb => Hg.out _ (hb ▸ Hf.out _))))
        | (go_at_call 8; with_reducible (first | (exact calls_class (HMa.out _) (fun _ hb => Hg.out _ ((Hf.out _).on hb))) | (exact calls_class (HMb.out _) (fun _ hb => Hg.out _ ((Hf.out _).on hb)))))))
      refine wpQuiet_nil ?_
      rintro _ ⟨x, rfl⟩
      have HT := Lib.hid (Hf.out x)
      clear a0 a1 a2 b0 b1 b2 Hf Hg
      generalize f x = w1 at HT ⊢
      clear x f hX
      go_wp2_with fail
      refine wp_region_class (fun w' => TwoK w w' w.heap.size (w.heap.size + 1) ⟨az, al, aa⟩ ⟨bz, bl, ba⟩) (by kernel_rfl) (by kernel_rfl) HT.out.drew ?_
      intro X hX f hf hg
      have a0 : ∀ x, (f x).cell? ⟨w.heap.size, 0, none⟩ = some (.int .i64 az) := fun x => (hf x).1.kd.1
      have a1 : ∀ x, (f x).cell? ⟨w.heap.size, 1, none⟩ = some (.int .i64 al) := fun x => (hf x).1.kd.2.1
      have a2 : ∀ x, (f x).cell? ⟨w.heap.size, 2, none⟩ = some (.int .i64 aa) := fun x => (hf x).1.kd.2.2
      have b0 : ∀ x, (f x).cell? ⟨w.heap.size + 1, 0, none⟩ = some (.int .i64 bz) := fun x => (hf x).2.1.kd.1
      have b1 : ∀ x, (f x).cell? ⟨w.heap.size + 1, 1, none⟩ = some (.int .i64 bl) := fun x => (hf x).2.1.kd.2.1
      have b2 : ∀ x, (f x).cell? ⟨w.heap.size + 1, 2, none⟩ = some (.int .i64 ba) := fun x => (hf x).2.1.kd.2.2
      have Hf := Lib.hid hf
      have Hg := Lib.hid hg
      clear hf hg
      repeat (go_big_quiet_step (first
        | (go_at_call 9; with_reducible (exact calls_class (HSz.out _) (fun _ hb => Hg.out _ (hb ▸ Hf.out _))))
        | (go_at_call 10; with_reducible (exact calls_class (HPb.out _) (fun _ hb => Hg.out _ ((Hf.out _).on hb))))
        | (go_at_call 11; with_reducible (exact calls_class (HRb.out _) (fun _ hb => Hg.out _ ((Hf.out _).on hb))))))
      refine wpQuiet_nil ?_
      rintro _ ⟨x, rfl⟩
      have HT := Lib.hid (Hf.out x)
      clear a0 a1 a2 b0 b1 b2 Hf Hg
      generalize f x = w2 at HT ⊢
      clear x f hX
      go_wp2
      go_ret
      exact ⟨ret_bool (by cases bet <;> rfl), HT.out.2.2⟩
    · rw [decide_eq_true hma] at HMa
      rw [decide_eq_false hmb] at HMb
      clear hma hmb hn
      go_enter Try.func3, Try.ntmps3
      go_wp2_with fail
      generalize World.alloc _ _ = w0 at HT ⊢
      refine wp_region_class (fun w' => TwoK w w' w.heap.size (w.heap.size + 1) ⟨az, al, aa⟩ ⟨bz, bl, ba⟩) (by kernel_rfl) (by kernel_rfl) HT.out.drew ?_
      intro X hX f hf hg
      have a0 : ∀ x, (f x).cell? ⟨w.heap.size, 0, none⟩ = some (.int .i64 az) := fun x => (hf x).1.kd.1
      have a1 : ∀ x, (f x).cell? ⟨w.heap.size, 1, none⟩ = some (.int .i64 al) := fun x => (hf x).1.kd.2.1
      have a2 : ∀ x, (f x).cell? ⟨w.heap.size, 2, none⟩ = some (.int .i64 aa) := fun x => (hf x).1.kd.2.2
      have b0 : ∀ x, (f x).cell? ⟨w.heap.size + 1, 0, none⟩ = some (.int .i64 bz) := fun x => (hf x).2.1.kd.1
      have b1 : ∀ x, (f x).cell? ⟨w.heap.size + 1, 1, none⟩ = some (.int .i64 bl) := fun x => (hf x).2.1.kd.2.1
      have b2 : ∀ x, (f x).cell? ⟨w.heap.size + 1, 2, none⟩ = some (.int .i64 ba) := fun x => (hf x).2.1.kd.2.2
      have Hf := Lib.hid hf
      have Hg := Lib.hid hg
      clear hf hg
      repeat (go_big_quiet_step (first
        | (go_at_call 7; with_reducible (exact calls_class (QW.out _) (fun _ hb => Hg.out _ ((Hf.out _).on hb))))
        | (go_at_call 9; with_reducible (exact calls_class (HSz.out _) (fun _ hb => Hg.out _ (hb ▸ Hf.out _))))
        | (go_at_call 8; with_reducible (first | (exact calls_class (HMa.out _) (fun _ hb => Hg.out _ ((Hf.out _).on hb))) | (exact calls_class (HMb.out _) (fun _ hb => Hg.out _ ((Hf.out _).on hb)))))))
      refine wpQuiet_nil ?_
      rintro _ ⟨x, rfl⟩
      have HT := Lib.hid (Hf.out x)
      clear a0 a1 a2 b0 b1 b2 Hf Hg
      generalize f x = w1 at HT ⊢
      clear x f hX
      go_wp2_with fail
      refine (QW.out _).mono ?_
      rintro e w9 ⟨rfl, hb9⟩
      have H9 := Lib.hid (HT.out.on hb9)
      clear hb9
      go_wp2
      go_ret
      exact ⟨rfl, H9.out.2.2⟩
  · rw [decide_eq_false hma] at HMa
    clear hma hn
    go_enter Try.func3, Try.ntmps3
    go_wp2_with fail
    generalize World.alloc _ _ = w0 at HT ⊢
    refine wp_region_class (fun w' => TwoK w w' w.heap.size (w.heap.size + 1) ⟨az, al, aa⟩ ⟨bz, bl, ba⟩) (by kernel_rfl) (by kernel_rfl) HT.out.drew ?_
    intro X hX f hf hg
    have a0 : ∀ x, (f x).cell? ⟨w.heap.size, 0, none⟩ = some (.int .i64 az) := fun x => (hf x).1.kd.1
    have a1 : ∀ x, (f x).cell? ⟨w.heap.size, 1, none⟩ = some (.int .i64 al) := fun x => (hf x).1.kd.2.1
    have a2 : ∀ x, (f x).cell? ⟨w.heap.size, 2, none⟩ = some (.int .i64 aa) := fun x => (hf x).1.kd.2.2
    have b0 : ∀ x, (f x).cell? ⟨w.heap.size + 1, 0, none⟩ = some (.int .i64 bz) := fun x => (hf x).2.1.kd.1
    have b1 : ∀ x, (f x).cell? ⟨w.heap.size + 1, 1, none⟩ = some (.int .i64 bl) := fun x => (hf x).2.1.kd.2.1
    have b2 : ∀ x, (f x).cell? ⟨w.heap.size + 1, 2, none⟩ = some (.int .i64 ba) := fun x => (hf x).2.1.kd.2.2
    have Hf := Lib.hid hf
    have Hg := Lib.hid hg
    clear hf hg
    repeat (go_big_quiet_step (first
      | (go_at_call 7; with_reducible (exact calls_class (QW.out _) (fun _ hb => Hg.out _ ((Hf.out _).on hb))))
      | (go_at_call 9; with_reducible (exact calls_class (HSz.out _) (fun _ hb => Hg.out _ (hb ▸ Hf.out _))))
      | (go_at_call 8; with_reducible (first | (exact calls_class (HMa.out _) (fun _ hb => Hg.out _ ((Hf.out _).on hb))) | (exact calls_class (HMb.out _) (fun _ hb => Hg.out _ ((Hf.out _).on hb)))))))
    refine wpQuiet_nil ?_
    rintro _ ⟨x, rfl⟩
    have HT := Lib.hid (Hf.out x)
    clear a0 a1 a2 b0 b1 b2 Hf Hg
    generalize f x = w1 at HT ⊢
    clear x f hX
    go_wp2_with fail
    refine (QW.out _).mono ?_
    rintro e w9 ⟨rfl, hb9⟩
    have H9 := Lib.hid (HT.out.on hb9)
    clear hb9
    go_wp2
    go_ret
    exact ⟨rfl, H9.out.2.2⟩
set_option maxRecDepth 100000 in
set_option maxHeartbeats 4000000 in
theorem pilaw_bests (A : Option Addr) (m cap : Nat) (l : List Cd) (n p : Int) (w : World) (hn : 0 ≤ n ∧ n ≤ 255) (hl : l.length = m) (hm : m ≤ maxLen) (hr : Rd w w.heap.size A (kls l)) :
    Calls Try.prog 4 #[.slice A m cap, .int .u8 n, .int .i64 p] w fun e w' => e = .returned (.bool true) ∧ Below w.heap.size w w' := by
  have QW := Lib.hid fun w' => awake16_any w'
  have HSz := Lib.hid fun w => size_any n w hn
  have HL := Lib.hid (And.intro hl (And.intro hm hr))
  have HS := Lib.hid (size_size hn)
  unfold maxLen at hm
  clear hl hr hn
  go_enter Try.func4, Try.ntmps4
  go_wp2_with fail
  refine (QW.out _).mono ?_
  rintro e w1 ⟨rfl, hb1⟩
  have H1 := Lib.hid (And.intro hb1 ((HL.out.2.2.below hb1).more hb1.size))
  clear hb1
  go_wp2_with fail
  refine (rright_any16 A m cap l w1 HL.out.1 HL.out.2.1 H1.out.2).mono ?_
  rintro e w2 ⟨he, rfl⟩
  rcases he with rfl | ⟨rfl, h60, hag⟩
  · go_wp2_with fail
    refine (QW.out _).mono ?_
    rintro e w9 ⟨rfl, hb9⟩
    have H9 := Lib.hid (bthen H1.out.1 hb9)
    clear hb9
    go_wp2
    go_ret
    exact ⟨rfl, H9.out⟩
  · have HA := Lib.hid hag
    clear hag
    go_wp2_with fail
    refine (HSz.out _).mono ?_
    rintro e w2 ⟨rfl, rfl⟩
    go_wp2_with fail
    refine (pbest_any _ p A m cap l w1 HS.out HL.out.1 HL.out.2.1 HA.out H1.out.2).mono ?_
    rintro e w3 ⟨o, ho, rfl, hb3⟩
    have HO := Lib.hid ho
    have H3 := Lib.hid (And.intro (bthen H1.out.1 hb3) ((H1.out.2.below hb3).more hb3.size))
    clear ho hb3
    go_wp2_with fail
    refine (HSz.out _).mono ?_
    rintro e w4 ⟨rfl, rfl⟩
    go_wp2_with fail
    refine (rbest_any _ p A m cap l w3 HS.out HL.out.1 HL.out.2.1 HA.out H3.out.2).mono ?_
    rintro e w5 ⟨o', ho', rfl, hb5⟩
    obtain ⟨z1, z2⟩ := best_same HO.out ho' (fun x => Iff.rfl)
    have H5 := Lib.hid (bthen H3.out.1 hb5)
    rw [z1, z2]
    clear ho' hb5 z1 z2 HO
    generalize zn o' = z
    generalize o'.isSome = ok
    have hz : (z == z) = true := by simp
    go_wp2
    go_ret
    exact ⟨ret_bool (by cases ok <;> rfl), H5.out⟩
end Go.Proofs.Ytndjjgabfmplcaa

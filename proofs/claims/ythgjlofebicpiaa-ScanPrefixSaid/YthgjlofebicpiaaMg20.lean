/-
  GeomE GeomO
-/
import Derived.Test.YthgjlofebicpiaaMg16
import Derived.Test.YthgjlofebicpiaaMg09
/-
  What the document's answers for package geom do: Blocks, Pages, Right, Sectors.
-/
namespace Go.Proofs.Ythgjlofebicpiaa
open Go.RowKit Geom
set_option linter.unusedVariables false

set_option maxHeartbeats 400000 in
theorem rblocks_any (conv soft seq size opn : Int) (w : World) (H : Some conv seq size) :
    Calls Try.prog 62 #[.agg #[.int .i64 conv, .int .i64 soft, .int .i64 seq, .int .i64 size, .int .i64 opn]] w fun e w' => e = .returned (.int .i64 (blocks seq size)) ∧ Below w.heap.size w w' := by
  have hp := prod_bd H
  have hb0 : Below w.heap.size w (w.alloc (.cells #[.int .i64 conv, .int .i64 soft, .int .i64 seq, .int .i64 size, .int .i64 opn] 23)) := (Below.refl _ _).alloc (Nat.le_refl _) _
  have HB := Lib.hid (show blocks seq size = min ((seq - 5) * (size / 2)) 4096 from rfl)
  obtain ⟨q1, q2, q3, q4, q5⟩ := H
  have HK := Lib.hid (fun (k : Int) (h : 5 ≤ k) (h2 : k ≤ seq) => mul_in (show 0 ≤ k - 5 by omega) (show k - 5 ≤ 64 by omega) (show 0 ≤ size / 2 by omega) (show size / 2 ≤ 128 by omega))
  go_enter Try.func62, Try.ntmps62
  go_wp2
  go_loop [3, 4] (fun n i => ∃ k : Int, 5 ≤ k ∧ k ≤ seq ∧ i = .int .i64 k ∧ n = .int .i64 ((k - 5) * (size / 2))) (fun _ i => (seq - intOf i).toNat)
  case atStart => exact ⟨5, by omega, by omega, rfl, by simp⟩
  case round =>
    obtain ⟨k, hk0, hk1, rfl, rfl⟩ := hrel
    obtain ⟨m0, m1⟩ := HK.out k hk0 hk1
    by_cases hlt : k < seq
    · have HN := Lib.hid (show (k + 1 - 5) * (size / 2) = (k - 5) * (size / 2) + size / 2 by rw [show k + 1 - 5 = k - 5 + 1 by omega, Int.add_mul, Int.one_mul])
      generalize (k - 5) * (size / 2) = m at *
      go_wp2
      go_round
      case rel => exact ⟨k + 1, by omega, by omega, rfl, by rw [HN.out]⟩
      case measure => simp [intOf]; omega
    · obtain rfl : k = seq := by omega
      by_cases hbig : 4096 < (k - 5) * (size / 2)
      · have HR := Lib.hid (show blocks k size = 4096 by rw [HB.out]; omega)
        generalize (k - 5) * (size / 2) = m at *
        go_wp2
        go_ret
        exact ⟨ret_int HR.out, hb0⟩
      · have HR := Lib.hid (show blocks k size = (k - 5) * (size / 2) by rw [HB.out]; omega)
        generalize (k - 5) * (size / 2) = m at *
        go_wp2
        go_ret
        exact ⟨ret_int HR.out, hb0⟩

set_option maxHeartbeats 400000 in
theorem rpages_any (conv soft seq size opn : Int) (w : World) (H : Some conv seq size) :
    Calls Try.prog 38 #[.agg #[.int .i64 conv, .int .i64 soft, .int .i64 seq, .int .i64 size, .int .i64 opn]] w fun e w' => e = .returned (.int .i64 (pages seq size)) ∧ Below w.heap.size w w' := by
  have hb := blocks_bd H
  have hbox := Lies.new w conv soft seq size opn 23 (0, 0)
  have hb0 : Below w.heap.size w (w.alloc (.cells #[.int .i64 conv, .int .i64 soft, .int .i64 seq, .int .i64 size, .int .i64 opn] 23)) := (Below.refl _ _).alloc (Nat.le_refl _) _
  have HP := Lib.hid (show pages seq size = (blocks seq size + 9) / 10 from rfl)
  have HR := Lib.hid fun w => rblocks_any conv soft seq size opn w H
  generalize blocks seq size = b at *
  generalize pages seq size = p at *
  obtain ⟨hb1, hb2⟩ := hb
  have H0 := Lib.hid (And.intro hbox hb0)
  clear hbox hb0 H
  go_enter Try.func38, Try.ntmps38
  go_wp2
  go_loopw [3] (fun n wr => ∃ k : Int, 0 ≤ k ∧ k ≤ (b + 9) / 10 ∧ n = .int .i64 k ∧ Lies wr w.heap.size conv soft seq size opn ∧ Below w.heap.size w wr) (fun n _ => (410 - intOf n).toNat)
  case atStart => exact ⟨0, by omega, by omega, rfl, H0.out⟩
  case round =>
    clear H0
    obtain ⟨k, hk0, hk1, rfl, hl, hbl⟩ := hrel
    obtain ⟨c0, c1, c2, c3, c4, hlt⟩ := id hl
    go_wp2_with fail
    refine (HR.out _).mono ?_
    rintro e w1 ⟨rfl, hb3⟩
    have hl1 := hl.below hb3
    have hbl1 := hbl.trans (hb3.mono hbl.size)
    clear c0 c1 c2 c3 c4 hlt hl hbl hb3
    by_cases hlt : 10 * k < b
    · go_wp2
      go_roundw
      case rel => exact ⟨k + 1, by omega, by omega, rfl, hl1, hbl1⟩
      case measure => simp [intOf]; omega
    · have HQ := Lib.hid (show p = k by rw [HP.out]; omega)
      go_wp2
      go_ret
      exact ⟨ret_int HQ.out, hbl1⟩

/-- a measure lies in w', behind w's blocks -/
@[reducible] def One (w w' : World) (conv soft seq size opn : Int) : Prop := Lies w' w.heap.size conv soft seq size opn ∧ Below w.heap.size w w'
theorem One.below {w w' w2 : World} {conv soft seq size opn : Int} (h : One w w' conv soft seq size opn) (hb : Below w'.heap.size w' w2) : One w w2 conv soft seq size opn :=
  ⟨h.1.below hb, h.2.trans (hb.mono h.2.size)⟩

set_option maxHeartbeats 4000000 in
theorem rright_any (conv soft seq size opn : Int) (w : World) :
    Calls Try.prog 20 #[.agg #[.int .i64 conv, .int .i64 soft, .int .i64 seq, .int .i64 size, .int .i64 opn]] w fun e w' => e = .returned (.bool (okB conv soft seq size opn)) ∧ Below w.heap.size w w' := by
  have H0 := Lib.hid (show One w (w.alloc (.cells #[.int .i64 conv, .int .i64 soft, .int .i64 seq, .int .i64 size, .int .i64 opn] 23)).drew conv soft seq size opn from ⟨Lies.new w conv soft seq size opn 23 (0, 0), ((Below.refl _ _).alloc (Nat.le_refl _) _).drew⟩)
  have hb0 : Below w.heap.size w (w.alloc (.cells #[.int .i64 conv, .int .i64 soft, .int .i64 seq, .int .i64 size, .int .i64 opn] 23)) := (Below.refl _ _).alloc (Nat.le_refl _) _
  have HN := Lib.hid fun h => ok_no (conv := conv) (soft := soft) (seq := seq) (size := size) (opn := opn) h
  by_cases g0 : conv < 2
  · have HD := Lib.hid (HN.out (by unfold Ok; omega))
    clear H0
    go_enter Try.func20, Try.ntmps20
    go_wp2
    go_ret
    exact ⟨ret_bool HD.out, hb0⟩
  have n0 : decide (conv < 2) = false := decide_eq_false g0
  by_cases g1 : 64 < conv
  · have HD := Lib.hid (HN.out (by unfold Ok; omega))
    clear H0
    go_enter Try.func20, Try.ntmps20
    go_wp2
    go_ret
    exact ⟨ret_bool HD.out, hb0⟩
  have n1 : decide (64 < conv) = false := decide_eq_false g1
  by_cases g2 : seq < 6
  · have HD := Lib.hid (HN.out (by unfold Ok; omega))
    clear H0
    go_enter Try.func20, Try.ntmps20
    go_wp2
    go_ret
    exact ⟨ret_bool HD.out, hb0⟩
  have n2 : decide (seq < 6) = false := decide_eq_false g2
  by_cases g3 : 64 < seq
  · have HD := Lib.hid (HN.out (by unfold Ok; omega))
    clear H0
    go_enter Try.func20, Try.ntmps20
    go_wp2
    go_ret
    exact ⟨ret_bool HD.out, hb0⟩
  have n3 : decide (64 < seq) = false := decide_eq_false g3
  by_cases g4 : 64 < conv + seq
  · have HD := Lib.hid (HN.out (by unfold Ok; omega))
    clear H0
    go_enter Try.func20, Try.ntmps20
    go_wp2
    go_ret
    exact ⟨ret_bool HD.out, hb0⟩
  have n4 : decide (64 < conv + seq) = false := decide_eq_false g4
  by_cases g5 : size < 8
  · have HD := Lib.hid (HN.out (by unfold Ok; omega))
    clear H0
    go_enter Try.func20, Try.ntmps20
    go_wp2
    go_ret
    exact ⟨ret_bool HD.out, hb0⟩
  have n5 : decide (size < 8) = false := decide_eq_false g5
  by_cases g6 : 256 < size
  · have HD := Lib.hid (HN.out (by unfold Ok; omega))
    clear H0
    go_enter Try.func20, Try.ntmps20
    go_wp2
    go_ret
    exact ⟨ret_bool HD.out, hb0⟩
  have n6 : decide (256 < size) = false := decide_eq_false g6
  by_cases g7 : opn < 3
  · have HD := Lib.hid (HN.out (by unfold Ok; omega))
    clear H0
    go_enter Try.func20, Try.ntmps20
    go_wp2
    go_ret
    exact ⟨ret_bool HD.out, hb0⟩
  have n7 : decide (opn < 3) = false := decide_eq_false g7
  by_cases g8 : 65536 < soft
  · have HD := Lib.hid (HN.out (by unfold Ok; omega))
    clear H0
    go_enter Try.func20, Try.ntmps20
    go_wp2
    go_ret
    exact ⟨ret_bool HD.out, hb0⟩
  have n8 : decide (65536 < soft) = false := decide_eq_false g8
  have H : Some conv seq size := ⟨by omega, by omega, by omega, by omega, by omega⟩
  have hp := pages_bd H
  have HY := Lib.hid (show okB conv soft seq size opn = decide (pages seq size + 3 ≤ soft) by
    exact decide_eq_decide.2 ⟨fun h => h.2.2.2.2.2.2.1, fun h => ⟨by omega, by omega, by omega, by omega, by omega, by omega, h, by omega⟩⟩)
  have HH := Lib.hid fun w => rpages_any conv soft seq size opn w H
  generalize pages seq size = p at *
  obtain ⟨p0, p1⟩ := hp
  have hq := IntWalk.i64_in (p + 3) (by omega)
  clear H hb0
  go_enter Try.func20, Try.ntmps20
  go_wp2
  refine wp_region_class (fun w' => One w w' conv soft seq size opn) (by kernel_rfl) (by kernel_rfl) H0.out ?_
  intro X hX f hf hg
  have c0 := fun x => (hf x).1.1
  have c1 := fun x => (hf x).1.2.1
  have c2 := fun x => (hf x).1.2.2.1
  have c3 := fun x => (hf x).1.2.2.2.1
  have c4 := fun x => (hf x).1.2.2.2.2.1
  have Hf := Lib.hid hf
  have Hg := Lib.hid hg
  clear hf hg H0
  repeat (go_big_quiet_step (exact calls_class (HH.out _) (fun _ hb => Hg.out _ ((Hf.out _).below hb))))
  refine wpQuiet_nil ?_
  rintro _ ⟨x, rfl⟩
  have hbb := (Hf.out x).2
  go_wp2
  go_ret
  exact ⟨ret_bool HY.out, hbb⟩

end Go.Proofs.Ythgjlofebicpiaa

/-
  A measure, a place as arguments; a measure in a block of its own.
-/
namespace Go.Proofs.Ythgjlofebicpiaa
open Go.RowKit Geom
set_option linter.unusedVariables false

theorem wf_i64 {x : Int} (h : (Lit.int .i64 x).wf = true) : -9223372036854775808 ≤ x ∧ x < 9223372036854775808 := by
  simp [Lit.wf, IntKind.min, IntKind.max, IntKind.signed, IntKind.bits] at h
  omega
theorem One.drew {w w' : World} {conv soft seq size opn : Int} (h : One w w' conv soft seq size opn) : One w w'.drew conv soft seq size opn := ⟨h.1.drew, h.2.drew⟩
theorem One.new (w : World) (conv soft seq size opn : Int) (T : TypeId) : One w (w.alloc (.cells #[.int .i64 conv, .int .i64 soft, .int .i64 seq, .int .i64 size, .int .i64 opn] T)) conv soft seq size opn :=
  ⟨Lies.new w conv soft seq size opn T (0, 0), (Below.refl _ _).alloc (Nat.le_refl _) _⟩

set_option maxRecDepth 100000 in
theorem open_geo {H : Type} {enc : TypeId × Value → H} {w : World} {base b0 : Nat} {r : Reach} {sp : Nat → Bool} {held : Bool} {v : Value} {d : DataW H} {ps : List MemPlace}
    (hu : Value.okWide Try.prog w r b0 23 v) (h : DataW.Trod enc Try.prog w base sp held 23 v d ps) :
    ∃ conv soft seq size opn : Int, v = .agg #[.int .i64 conv, .int .i64 soft, .int .i64 seq, .int .i64 size, .int .i64 opn] ∧ seq < 9223372036854775808 := by
  obtain ⟨cs, rfl, hs⟩ := has_agg (s := .pair 1 (.int .i64) (.pair 1 (.int .i64) (.pair 1 (.int .i64) (.pair 1 (.int .i64) (.pair 1 (.int .i64) .nil))))) 3 (by kernel_rfl) h hu (.inl ⟨_, Try.underlying23⟩)
  obtain ⟨_, _, rfl, _, ⟨conv, rfl, _⟩, _, _, rfl, _, ⟨soft, rfl, _⟩, _, _, rfl, _, ⟨seq, rfl, hw⟩, _, _, rfl, _, ⟨size, rfl, _⟩, _, _, rfl, _, ⟨opn, rfl, _⟩, rfl⟩ := hs
  exact ⟨conv, soft, seq, size, opn, rfl, (wf_i64 hw).2⟩

set_option maxRecDepth 100000 in
theorem open_place {H : Type} {enc : TypeId × Value → H} {w : World} {base b0 : Nat} {r : Reach} {sp : Nat → Bool} {held : Bool} {v : Value} {d : DataW H} {ps : List MemPlace}
    (hu : Value.okWide Try.prog w r b0 68 v) (h : DataW.Trod enc Try.prog w base sp held 68 v d ps) :
    ∃ zone off : Int, v = .agg #[.int .i64 zone, .int .i64 off] := by
  obtain ⟨cs, rfl, hs⟩ := has_agg (s := .pair 1 (.int .i64) (.pair 1 (.int .i64) .nil)) 3 (by kernel_rfl) h hu (.inl ⟨_, Try.underlying68⟩)
  obtain ⟨_, _, rfl, _, ⟨zone, rfl, _⟩, _, _, rfl, _, ⟨off, rfl, _⟩, rfl⟩ := hs
  exact ⟨zone, off, rfl⟩

end Go.Proofs.Ythgjlofebicpiaa

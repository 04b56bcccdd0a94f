/-
  'awake' of layer 7 answers true; a leaf as an argument opened.
-/
import Derived.Test.YtoehflalpidhfaaLfE
import Derived.Test.YtoehflalpidhfaaOpen
namespace Go.Proofs.Ytoehflalpidhfaa
open Go.RowKit Word Crc Leaf
set_option linter.unusedVariables false

set_option maxRecDepth 100000 in
theorem open_leaf {H : Type} {enc : TypeId × Value → H} {w : World} {base b0 : Nat} {r : Reach} {sp : Nat → Bool} {held : Bool} {v : Value} {d : DataW H} {ps : List MemPlace}
    (hu : Value.okWide Try.prog w r b0 49 v) (h : DataW.Trod enc Try.prog w base sp held 49 v d ps) : ∃ x : Lf, v = .agg (lcs x).toArray ∧ In x := by
  obtain ⟨cs, rfl, hs⟩ := has_agg (s := .pair 1 (.int .i64) (.pair 1 (.int .i64) (.pair 10 (.rep 10 1 (.int .i64)) .nil))) 3 (by kernel_rfl) h hu (.inl ⟨_, Try.underlying49⟩)
  obtain ⟨_, _, rfl, _, ⟨k, rfl, _⟩, _, _, rfl, _, ⟨e, rfl, _⟩, _, _, rfl, _, hd, rfl⟩ := hs
  obtain ⟨ws, h1, rfl, h3⟩ := has_ints hd
  refine ⟨⟨k, e, ws⟩, ?_, h1⟩
  simp [lcs, is]

abbrev lfA : Lf := ⟨3, 2, 258 :: List.replicate 9 0⟩
theorem lfA_ok : Ok lfA := by decide
theorem lfA_in : In lfA := by simp [In]
theorem lfA_lay : (layL lfA).getD 0 0 = 128 ∧ (layL lfA).getD 1 0 = 3 ∧ (layL lfA).getD 9 0 = 2 ∧ (layL lfA).getD 13 0 = 2 ∧ (layL lfA).getD 14 0 = 1 := by decide +kernel
theorem lfread_pg0 : readS pg0 = (lf0, 8) := by unfold readS; rw [if_pos (show rightB pg0 = false by decide +kernel)]
theorem lfA_build (w : World) : (Instr.build 49 #[(0, .int .i64 3), (1, .int .i64 2), (2, .agg (is (258 :: List.replicate 9 0)).toArray)]).run Try.prog w = .ok (.agg (lcs lfA).toArray) w := run_build_leaf3 w lfA lfA_in
end Go.Proofs.Ytoehflalpidhfaa

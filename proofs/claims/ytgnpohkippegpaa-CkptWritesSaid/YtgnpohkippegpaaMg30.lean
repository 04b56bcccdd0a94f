/-
  LfF LfG
-/
import Derived.Test.YtgnpohkippegpaaMg29
import Derived.Test.YtgnpohkippegpaaMg05
/-
  'awake' of layer 7 answers true; a leaf as an argument opened.
-/
namespace Go.Proofs.Ytgnpohkippegpaa
open Go.RowKit Word Crc Leaf
set_option linter.unusedVariables false

set_option maxRecDepth 100000 in
theorem open_leaf {H : Type} {enc : TypeId × Value → H} {w : World} {base b0 : Nat} {r : Reach} {sp : Nat → Bool} {held : Bool} {v : Value} {d : DataW H} {ps : List MemPlace}
    (hu : Value.okWide Try.prog w r b0 87 v) (h : DataW.Trod enc Try.prog w base sp held 87 v d ps) : ∃ x : Lf, v = .agg (lcs x).toArray ∧ In x := by
  obtain ⟨cs, rfl, hs⟩ := has_agg (s := .pair 1 (.int .i64) (.pair 1 (.int .i64) (.pair 10 (.rep 10 1 (.int .i64)) .nil))) 3 (by kernel_rfl) h hu (.inl ⟨_, Try.underlying87⟩)
  obtain ⟨_, _, rfl, _, ⟨k, rfl, _⟩, _, _, rfl, _, ⟨e, rfl, _⟩, _, _, rfl, _, hd, rfl⟩ := hs
  obtain ⟨ws, h1, rfl, h3⟩ := has_ints hd
  refine ⟨⟨k, e, ws⟩, ?_, h1⟩
  simp [lcs, is]

abbrev lfA : Lf := ⟨3, 2, 258 :: List.replicate 9 0⟩
theorem lfA_ok : Ok lfA := by decide
theorem lfA_in : In lfA := by simp [In]
theorem lfA_lay : (layL lfA).getD 0 0 = 128 ∧ (layL lfA).getD 1 0 = 3 ∧ (layL lfA).getD 9 0 = 2 ∧ (layL lfA).getD 13 0 = 2 ∧ (layL lfA).getD 14 0 = 1 := by decide +kernel
theorem lfread_pg0 : readS pg0 = (lf0, 8) := by unfold readS; rw [if_pos (show rightB pg0 = false by decide +kernel)]
theorem lfA_build (w : World) : (Instr.build 87 #[(0, .int .i64 3), (1, .int .i64 2), (2, .agg (is (258 :: List.replicate 9 0)).toArray)]).run Try.prog w = .ok (.agg (lcs lfA).toArray) w := run_build_leaf3 w lfA lfA_in
end Go.Proofs.Ytgnpohkippegpaa

/-
  The walks of the laws PageBack, PageAlone, PageOnly.
-/
namespace Go.Proofs.Ytgnpohkippegpaa
open Go.RowKit Word Crc Leaf
set_option linter.unusedVariables false

/-- two arguments in variables of their own -/
def TwoBx (w W : World) (T : TypeId) (cs : List Value) (U : TypeId) (ds : List Value) : Prop := Box W w.heap.size T cs ∧ Box W (w.heap.size + 1) U ds ∧ Below w.heap.size w W ∧ w.heap.size + 2 ≤ W.heap.size
section
variable {w W W' : World} {T U : TypeId} {cs ds : List Value}
theorem TwoBx.on (h : TwoBx w W T cs U ds) (hb : Below W.heap.size W W') : TwoBx w W' T cs U ds := ⟨h.1.on hb, h.2.1.on hb, bthen h.2.2.1 hb, Nat.le_trans h.2.2.2 hb.size⟩
theorem TwoBx.drew (h : TwoBx w W T cs U ds) : TwoBx w W.drew T cs U ds := ⟨h.1, h.2.1, h.2.2.1.drew, h.2.2.2⟩
theorem TwoBx.start {w w1 w2 : World} (x0 : Box w1 w.heap.size T cs) (hB1 : Below w.heap.size w w1) (hs1 : w1.heap.size = w.heap.size + 1) (x1 : Box w2 w1.heap.size U ds) (hB2 : Below w1.heap.size w1 w2) (hs2 : w2.heap.size = w1.heap.size + 1) : TwoBx w w2 T cs U ds := by
  rw [hs1] at x1
  exact ⟨x0.below hB2 (by omega), x1, bthen hB1 hB2, by omega⟩
end
/-- a third variable beside them -/
def ThreeBx (w W : World) (T : TypeId) (cs : List Value) (U : TypeId) (ds : List Value) (b : Nat) (V : TypeId) (es : List Value) : Prop := TwoBx w W T cs U ds ∧ Box W b V es ∧ w.heap.size + 2 ≤ b
section
variable {w W W' : World} {T U V : TypeId} {cs ds es : List Value} {b : Nat}
theorem ThreeBx.on (h : ThreeBx w W T cs U ds b V es) (hb : Below W.heap.size W W') : ThreeBx w W' T cs U ds b V es := ⟨h.1.on hb, h.2.1.on hb, h.2.2⟩
theorem ThreeBx.drew (h : ThreeBx w W T cs U ds b V es) : ThreeBx w W.drew T cs U ds b V es := ⟨h.1.drew, h.2⟩
theorem ThreeBx.made (h : TwoBx w W T cs U ds) (hB : Below W.heap.size W W') (hx : Box W' W.heap.size V es) : ThreeBx w W' T cs U ds W.heap.size V es := ⟨h.on hB, hx, h.2.2.2⟩
end

end Go.Proofs.Ytgnpohkippegpaa

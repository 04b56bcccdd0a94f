/-
  The walks of the laws PageBack, PageAlone, PageOnly.
-/
import Derived.Test.YtoehflalpidhfaaLfF
namespace Go.Proofs.Ytoehflalpidhfaa
open Go.RowKit Word Crc Leaf
set_option linter.unusedVariables false

/-- two arguments in variables of their own -/
def TwoBx (w W : World) (T : TypeId) (cs : List Value) (U : TypeId) (ds : List Value) : Prop := Box W w.heap.size T cs ∧ Box W (w.heap.size + 1) U ds ∧ Below w.heap.size w W ∧ w.heap.size + 2 ≤ W.heap.size
section
variable {w W W' : World} {T U : TypeId} {cs ds : List Value}
theorem TwoBx.on (h : TwoBx w W T cs U ds) (hb : Below W.heap.size W W') : TwoBx w W' T cs U ds := ⟨h.1.on hb, h.2.1.on hb, bthen h.2.2.1 hb, Nat.le_trans h.2.2.2 hb.size⟩
theorem TwoBx.drew (h : TwoBx w W T cs U ds) : TwoBx w W.drew T cs U ds := ⟨h.1, h.2.1, h.2.2.1.drew, h.2.2.2⟩
theorem TwoBx.start {w w1 w2 : World} (x0 : Box w1 w.heap.size T cs) (hB1 : Below w.heap.size w w1) (hs1 : w1.heap.size = w.heap.size + 1) (x1 : Box w2 w1.heap.size U ds) (hB2 : Below w1.heap.size w1 w2) (hs2 : w2.heap.size = w1.heap.size + 1) : TwoBx w w2 T cs U ds := by
  rw [hs1] at x1
  exact ⟨x0.below hB2 (by omega), x1, bthen hB1 hB2, by omega⟩
end
/-- a third variable beside them -/
def ThreeBx (w W : World) (T : TypeId) (cs : List Value) (U : TypeId) (ds : List Value) (b : Nat) (V : TypeId) (es : List Value) : Prop := TwoBx w W T cs U ds ∧ Box W b V es ∧ w.heap.size + 2 ≤ b
section
variable {w W W' : World} {T U V : TypeId} {cs ds es : List Value} {b : Nat}
theorem ThreeBx.on (h : ThreeBx w W T cs U ds b V es) (hb : Below W.heap.size W W') : ThreeBx w W' T cs U ds b V es := ⟨h.1.on hb, h.2.1.on hb, h.2.2⟩
theorem ThreeBx.drew (h : ThreeBx w W T cs U ds b V es) : ThreeBx w W.drew T cs U ds b V es := ⟨h.1.drew, h.2⟩
theorem ThreeBx.made (h : TwoBx w W T cs U ds) (hB : Below W.heap.size W W') (hx : Box W' W.heap.size V es) : ThreeBx w W' T cs U ds W.heap.size V es := ⟨h.on hB, hx, h.2.2.2⟩
end

end Go.Proofs.Ytoehflalpidhfaa

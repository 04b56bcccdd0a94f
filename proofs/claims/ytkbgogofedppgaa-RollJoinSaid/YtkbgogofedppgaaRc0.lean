/-
  Records, as plain mathematics.
-/
import Derived.Test.YtkbgogofedppgaaWordM
namespace Go.Proofs.Ytkbgogofedppgaa
open Word
set_option linter.unusedVariables false

namespace Rec
/-- a record -/
structure Rc where
  kind : Int
  epoch : Int
  seq : Int
  block : Int
  count : Int
  data : List Int
abbrev z32 : List Int := List.replicate 32 0
abbrev rc0 : Rc := ⟨0, 0, 0, 0, 0, z32⟩
/-- a record's fields are in their types -/
def In (r : Rc) : Prop := r.data.length = 32 ∧ octets r.data
theorem rc0_in : In rc0 := ⟨by simp [z32], fun z hz => by simp [z32] at hz; omega⟩
end Rec
end Go.Proofs.Ytkbgogofedppgaa

/-
  The document's answer for layer 11: Reset, Step.
-/
import Derived.Test.YtbhcemipjfdemaaPoQ
namespace Go.Proofs.Ytbhcemipjfdemaa
open Go.RowKit Geom Leaf Pol
set_option linter.unusedVariables false

section
variable (conv soft seq size opn : Int) (A : Option Addr) (n cap : Nat) (ps : List Int) (h0 h1 h2 : Int)
end
end Go.Proofs.Ytbhcemipjfdemaa

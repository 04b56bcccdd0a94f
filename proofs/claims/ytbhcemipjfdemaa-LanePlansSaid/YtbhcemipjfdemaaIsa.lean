/-
  'Same' of layer 9's answers: are two lists of numbers one?
-/
import Derived.Test.YtbhcemipjfdemaaLf0
import Derived.Test.YtbhcemipjfdemaaClass
namespace Go.Proofs.Ytbhcemipjfdemaa
open Go.RowKit Leaf
set_option linter.unusedVariables false

end Go.Proofs.Ytbhcemipjfdemaa

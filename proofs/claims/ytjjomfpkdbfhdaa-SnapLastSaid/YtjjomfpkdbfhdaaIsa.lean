/-
  'Same' of layer 9's answers: are two lists of numbers one?
-/
import Derived.Test.YtjjomfpkdbfhdaaLf0
import Derived.Test.YtjjomfpkdbfhdaaClass
namespace Go.Proofs.Ytjjomfpkdbfhdaa
open Go.RowKit Leaf
set_option linter.unusedVariables false

end Go.Proofs.Ytjjomfpkdbfhdaa

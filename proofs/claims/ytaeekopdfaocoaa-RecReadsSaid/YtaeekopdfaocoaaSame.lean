/-
  'Same' of the first layer's answers: are two lists of bytes one?
-/
import Derived.Test.YtaeekopdfaocoaaBytes
namespace Go.Proofs.Ytaeekopdfaocoaa
open Go.RowKit Word

end Go.Proofs.Ytaeekopdfaocoaa

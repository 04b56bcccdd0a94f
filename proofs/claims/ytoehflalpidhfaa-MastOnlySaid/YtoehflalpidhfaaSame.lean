/-
  'Same' of the first layer's answers: are two lists of bytes one?
-/
import Derived.Test.YtoehflalpidhfaaBytes
namespace Go.Proofs.Ytoehflalpidhfaa
open Go.RowKit Word

end Go.Proofs.Ytoehflalpidhfaa

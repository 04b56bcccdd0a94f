/-
  'Same' of the first layer's answers: are two lists of bytes one?
-/
import Derived.Test.YtlpkmggboihdjaaBytes
namespace Go.Proofs.Ytlpkmggboihdjaa
open Go.RowKit Word

end Go.Proofs.Ytlpkmggboihdjaa

/-
  Sectors (pages of 64 bytes) as blocks known whole: made, read, laid, compared.
-/
import Derived.Test.YtkbgogofedppgaaBig
import Derived.Test.YtkbgogofedppgaaBytes
import Derived.Laws.StructEq
namespace Go.Proofs.Ytkbgogofedppgaa
open Go.RowKit Word
set_option linter.unusedVariables false

abbrev pg0 : List Int := List.replicate 64 0
theorem size_u8 (w : World) : (sizeOf 5).run Try.prog w = .ok 1 w := by go_simp
section
variable {w : World} {ops : Array Oper} {rest : List Oper} {o : Oper} {a : Act} {Q : Exit → Act → World → Prop}
end
end Go.Proofs.Ytkbgogofedppgaa

/-
  What each function of package geom does: one contract a function.
-/
import Derived.Test.YtbhcemipjfdemaaProg
import Derived.Test.YtbhcemipjfdemaaMem
import Derived.Test.YtbhcemipjfdemaaGeomM
import Derived.WalkSpells
import Derived.WalkLawsBesides
import Derived.OpenShut
import Derived.Deep.QuietTactic
import Derived.BigQuiet
import Derived.IntWalk
namespace Go.Proofs.Ytbhcemipjfdemaa
open Go.RowKit Geom
set_option linter.unusedVariables false

/-- a measure as a value -/
@[reducible] def geo (conv soft seq size opn : Int) : Value := .agg #[.int .i64 conv, .int .i64 soft, .int .i64 seq, .int .i64 size, .int .i64 opn]

end Go.Proofs.Ytbhcemipjfdemaa

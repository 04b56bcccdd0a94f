/-
  ZoneP
-/
import Derived.Test.YtkdhibjmfanhcaaMg17
/-
  What is asked of package zone, told by one number.
-/
namespace Go.Proofs.Ytkdhibjmfanhcaa
open Go.RowKit Geom Zone
set_option linter.unusedVariables false

/-- what comes of an act: zones, and why not -/
def Gives (w w' : World) (T : TypeId) (e : Ending) (n : Nat) (k : Int) (r : List Z × Int) : Prop :=
  ∃ A' c', e = .returned (.tuple #[.slice A' n c', .int .i64 r.2]) ∧ Rd w' w'.heap.size A' (zc r.1) ∧ (k ≠ 1 → w'.ownsRow w.heap.size T 2 (.slice A' n c') n (zc r.1)) ∧ Below w.heap.size w w'

section
variable (conv soft seq size opn zone off : Int) (A : Option Addr) (n cap : Nat) (L : List Z) (w : World) (hm : n ≤ 1000) (hn : L.length = n) (H : Some conv seq size) (hns : (n : Int) = conv + seq) (hr : Rd w w.heap.size A (zc L)) (hsoft : soft ≤ 65536)

end
end Go.Proofs.Ytkdhibjmfanhcaa

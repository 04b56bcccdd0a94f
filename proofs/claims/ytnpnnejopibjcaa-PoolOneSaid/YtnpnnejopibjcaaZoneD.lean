/-
  What package zone does to one zone: written, and Write's closure.
-/
import Derived.Test.YtnpnnejopibjcaaZoneC
namespace Go.Proofs.Ytnpnnejopibjcaa
open Go.RowKit Geom Zone
set_option linter.unusedVariables false

theorem set_at {w : World} {a : Addr} {u : Value} (h : w.cell? a = some u) (v : Value) : (w.setCell a v).cell? a = some v := World.cell?_setCell_same _ _ _ h
theorem set_off {w : World} {a b : Addr} {u : Value} (h : w.cell? b = some u) (v : Value) (hn : a ≠ b) : (w.setCell a v).cell? b = some u := (World.cell?_setCell_other _ _ _ _ hn).trans h

end Go.Proofs.Ytnpnnejopibjcaa

/-
  Are zones right? By the program.
-/
import Derived.Test.YtnpnnejopibjcaaZoneH
namespace Go.Proofs.Ytnpnnejopibjcaa
open Go.RowKit Geom Zone
set_option linter.unusedVariables false

theorem One.alloc {w w' : World} {conv soft seq size opn : Int} (h : One w w' conv soft seq size opn) (o : Obj) : One w (w'.alloc o) conv soft seq size opn := h.below ((Below.refl _ _).alloc (Nat.le_refl _) o)
theorem Rd.one {w w' : World} {conv soft seq size opn : Int} {A : Option Addr} {xs : List Value} (hr : Rd w w.heap.size A xs) (h : One w w' conv soft seq size opn) : Rd w' w'.heap.size A xs := (hr.below h.2).more h.2.size

end Go.Proofs.Ytnpnnejopibjcaa

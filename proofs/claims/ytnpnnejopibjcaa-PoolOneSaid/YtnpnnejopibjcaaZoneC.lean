/-
  What package zone does to one zone: reset, finished, opened, closed, atRest, written.
-/
import Derived.Test.YtnpnnejopibjcaaGeomD
import Derived.Test.YtnpnnejopibjcaaZoneM
namespace Go.Proofs.Ytnpnnejopibjcaa
open Go.RowKit Geom Zone
set_option linter.unusedVariables false

/-- two cells are stored: what lies there then -/
theorem set_two {w : World} {b : Nat} {u0 u1 : Value} (h0 : w.cell? ⟨b, 0, none⟩ = some u0) (h1 : w.cell? ⟨b, 1, none⟩ = some u1) (v0 v1 : Value) :
    (w.setCell ⟨b, 0, none⟩ v0).cell? ⟨b, 0, none⟩ = some v0 ∧ ((w.setCell ⟨b, 0, none⟩ v0).setCell ⟨b, 1, none⟩ v1).cell? ⟨b, 1, none⟩ = some v1 :=
  ⟨World.cell?_setCell_same _ _ _ h0, World.cell?_setCell_same _ _ _ ((World.cell?_setCell_other _ _ _ _ (by simp)).trans h1)⟩
/-- both cells of a zone that lies in block b -/
theorem new_cells (w : World) (u v : Value) (T : TypeId) (fr : Nat × Nat) : (w.alloc (.cells #[u, v] T fr)).cell? ⟨w.heap.size, 0, none⟩ = some u ∧ (w.alloc (.cells #[u, v] T fr)).cell? ⟨w.heap.size, 1, none⟩ = some v := by
  have h := rd_new w [u, v] T fr
  exact ⟨h.cell0 rfl, h.cell0 rfl⟩
theorem below_two {w : World} {o o' : Obj} : Below w.heap.size w ((w.alloc o).alloc o') := ((Below.refl _ _).alloc (Nat.le_refl _) _).alloc (by simp) _

end Go.Proofs.Ytnpnnejopibjcaa

/-
  DevG DevH DevI
-/
import Derived.Test.YtgnpohkippegpaaGreatMg06
import Derived.Test.YtgnpohkippegpaaGreatMg07
import Derived.Deep.RegionHeld3
/-
  Package dev: cut: a zone's pointer is set back to a sector that is lost.
-/
namespace Go.Proofs.YtgnpohkippegpaaGreat
open Go.RowKit Geom Zone Dev
set_option linter.unusedVariables false

namespace Dev
def cutL (L : List Z) (zone off : Int) : List Z :=
  if (zat L zone).1 = 4 ∨ (zat L zone).2 ≤ off then L else if off = 0 then L.set zone.toNat (0, 0) else L.set zone.toNat (2, off)
end Dev

section
variable {w : World} {d : Nat} {conv soft seq size opn : Int} {zv : Value} {lb : Nat} {cv : Value} {nb : Nat} {down : Bool} {armed ill : Int}
end
end Go.Proofs.YtgnpohkippegpaaGreat

/-
  Package dev: leaves: the closure that counts, made; what a crash does with each cached sector.
-/
namespace Go.Proofs.YtgnpohkippegpaaGreat
open Go.RowKit Geom Zone Dev
set_option linter.unusedVariables false

theorem three_dv (w : World) (A B C : Obj) : (((w.alloc A).alloc B).alloc C).drew.heap[w.heap.size]? = some A ∧ (((w.alloc A).alloc B).alloc C).drew.heap[w.heap.size + 1]? = some B ∧ (((w.alloc A).alloc B).alloc C).drew.heap[w.heap.size + 1 + 1]? = some C := by
  refine ⟨?_, ?_, ?_⟩
  · exact (Below.heap_alloc _ C _ (by simp; omega)).trans ((Below.heap_alloc _ B _ (by simp)).trans (MapKept.heap_alloc w A).1)
  · have := (MapKept.heap_alloc (w.alloc A) B).1
    rw [show (w.alloc A).heap.size = w.heap.size + 1 by simp] at this
    exact (Below.heap_alloc _ C _ (by simp)).trans this
  · have := (MapKept.heap_alloc ((w.alloc A).alloc B) C).1
    rw [show ((w.alloc A).alloc B).heap.size = w.heap.size + 1 + 1 by simp] at this
    exact this
theorem three_below (w : World) (A B C : Obj) : Below w.heap.size w (((w.alloc A).alloc B).alloc C).drew :=
  ((((Below.refl w.heap.size w).alloc (Nat.le_refl _) _).alloc (by simp) _).alloc (by simp; omega) _).drew
theorem elemDv : Elem Tryz.prog 50 3 (.int .i64 0) 1 8 := .of Tryz.underlying50 (by kernel_rfl) rfl (by omega)
section
variable {w : World} {d : Nat} {conv soft seq size opn : Int} {zv : Value} {lb : Nat} {cv : Value} {nb : Nat} {down : Bool} {armed ill : Int}
end
end Go.Proofs.YtgnpohkippegpaaGreat

/-
  Package dev: what a crash does with each cached sector.
-/
namespace Go.Proofs.YtgnpohkippegpaaGreat
open Go.RowKit Geom Zone Dev
set_option linter.unusedVariables false

namespace Dev
/-- what a crash goes by: the bits, the counts, whether the last sector was left, which it was, the zones -/
structure Cst where
  soft : Int
  kept : List Int
  left : Bool
  last : Wr
  L : List Z
def crs (conv : Int) (keep : List Int) (s : Cst) (c : Wr) : Int × Cst :=
  if (lvs conv keep s.soft s.kept c.1).1 = true then (1, ⟨(lvs conv keep s.soft s.kept c.1).2.1, (lvs conv keep s.soft s.kept c.1).2.2, true, c, s.L⟩)
  else (2, ⟨(lvs conv keep s.soft s.kept c.1).2.1, (lvs conv keep s.soft s.kept c.1).2.2, false, c, cutL s.L c.1 c.2.1⟩)
end Dev

section
variable {w : World} {d : Nat} {conv soft seq size opn : Int} {zv : Value} {lb : Nat} {cv : Value} {nb : Nat} {down : Bool} {armed ill : Int}
variable {n cz gz bl bt be bx bd bs' bw bk gk : Nat} {keepA : Option Addr} {kn kc : Nat} {keep : List Int} {soft0 tear : Int}

end
end Go.Proofs.YtgnpohkippegpaaGreat

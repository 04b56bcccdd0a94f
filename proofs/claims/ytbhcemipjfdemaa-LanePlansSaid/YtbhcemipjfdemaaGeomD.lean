/-
  What Right, Sectors, Num and At of package geom do.
-/
import Derived.Test.YtbhcemipjfdemaaGeomC
import Derived.Test.YtbhcemipjfdemaaClass
namespace Go.Proofs.Ytbhcemipjfdemaa
open Go.RowKit Geom
set_option linter.unusedVariables false

/-- a measure lies in block b -/
def Lies (w : World) (b : Nat) (conv soft seq size opn : Int) : Prop :=
  w.cell? ⟨b, 0, none⟩ = some (.int .i64 conv) ∧ w.cell? ⟨b, 1, none⟩ = some (.int .i64 soft) ∧ w.cell? ⟨b, 2, none⟩ = some (.int .i64 seq) ∧ w.cell? ⟨b, 3, none⟩ = some (.int .i64 size) ∧ w.cell? ⟨b, 4, none⟩ = some (.int .i64 opn) ∧ b < w.heap.size
theorem Lies.new (w : World) (conv soft seq size opn : Int) (T : TypeId) (fr : Nat × Nat) :
    Lies (w.alloc (.cells #[.int .i64 conv, .int .i64 soft, .int .i64 seq, .int .i64 size, .int .i64 opn] T fr)) w.heap.size conv soft seq size opn := by
  have h := rd_new w [.int .i64 conv, .int .i64 soft, .int .i64 seq, .int .i64 size, .int .i64 opn] T fr
  exact ⟨h.cell0 rfl, h.cell0 rfl, h.cell0 rfl, h.cell0 rfl, h.cell0 rfl, by simp⟩
section
variable {w w' : World} {b : Nat} {conv soft seq size opn : Int}
theorem Lies.below (h : Lies w b conv soft seq size opn) (hb : Below w.heap.size w w') : Lies w' b conv soft seq size opn := by
  obtain ⟨h0, h1, h2, h3, h4, hl⟩ := h
  have hk : ∀ o, w'.cell? ⟨b, o, none⟩ = w.cell? ⟨b, o, none⟩ := fun o => hb.cell (p := ⟨b, o, none⟩) hl
  exact ⟨(hk 0).trans h0, (hk 1).trans h1, (hk 2).trans h2, (hk 3).trans h3, (hk 4).trans h4, Nat.lt_of_lt_of_le hl hb.size⟩
theorem Lies.drew (h : Lies w b conv soft seq size opn) : Lies w.drew b conv soft seq size opn := h
end

/-- the sectors of a zone -/
def sectors (conv soft seq size zone : Int) : Int := if zone < 0 ∨ conv + seq ≤ zone then 0 else if zone < conv then soft else size

/-- a place lies in block b -/
def LiesAt (w : World) (b : Nat) (zone off : Int) : Prop := w.cell? ⟨b, 0, none⟩ = some (.int .i64 zone) ∧ w.cell? ⟨b, 1, none⟩ = some (.int .i64 off) ∧ b < w.heap.size
theorem LiesAt.new (w : World) (zone off : Int) (T : TypeId) (fr : Nat × Nat) : LiesAt (w.alloc (.cells #[.int .i64 zone, .int .i64 off] T fr)) w.heap.size zone off := by
  have h := rd_new w [.int .i64 zone, .int .i64 off] T fr
  exact ⟨h.cell0 rfl, h.cell0 rfl, by simp⟩
section
variable {w w' : World} {b : Nat} {zone off : Int}
theorem LiesAt.below (h : LiesAt w b zone off) (hb : Below w.heap.size w w') : LiesAt w' b zone off := by
  obtain ⟨h0, h1, hl⟩ := h
  have hk : ∀ o, w'.cell? ⟨b, o, none⟩ = w.cell? ⟨b, o, none⟩ := fun o => hb.cell (p := ⟨b, o, none⟩) hl
  exact ⟨(hk 0).trans h0, (hk 1).trans h1, Nat.lt_of_lt_of_le hl hb.size⟩
end
theorem Lies.alloc {w : World} {b : Nat} {conv soft seq size opn : Int} (h : Lies w b conv soft seq size opn) (o : Obj) : Lies (w.alloc o) b conv soft seq size opn :=
  h.below ((Below.refl _ _).alloc (Nat.le_refl _) _)

/-- both lie in w', behind w's blocks -/
@[reducible] def Two (w w' : World) (conv soft seq size opn zone off : Int) : Prop :=
  w'.cell? ⟨w.heap.size, 0, none⟩ = some (.int .i64 conv) ∧ w'.cell? ⟨w.heap.size, 1, none⟩ = some (.int .i64 soft) ∧ w'.cell? ⟨w.heap.size, 2, none⟩ = some (.int .i64 seq) ∧ w'.cell? ⟨w.heap.size, 3, none⟩ = some (.int .i64 size) ∧ w'.cell? ⟨w.heap.size, 4, none⟩ = some (.int .i64 opn) ∧ w'.cell? ⟨w.heap.size + 1, 0, none⟩ = some (.int .i64 zone) ∧ w'.cell? ⟨w.heap.size + 1, 1, none⟩ = some (.int .i64 off) ∧ w.heap.size + 1 < w'.heap.size ∧ Below w.heap.size w w'
theorem Two.new (w : World) (conv soft seq size opn zone off : Int) (T T' : TypeId) :
    Two w ((w.alloc (.cells #[.int .i64 conv, .int .i64 soft, .int .i64 seq, .int .i64 size, .int .i64 opn] T)).alloc (.cells #[.int .i64 zone, .int .i64 off] T')) conv soft seq size opn zone off := by
  obtain ⟨h0, h1, h2, h3, h4, _⟩ := (Lies.new w conv soft seq size opn T (0, 0)).alloc (.cells #[.int .i64 zone, .int .i64 off] T')
  obtain ⟨g0, g1, _⟩ := LiesAt.new (w.alloc (.cells #[.int .i64 conv, .int .i64 soft, .int .i64 seq, .int .i64 size, .int .i64 opn] T)) zone off T' (0, 0)
  have hsz : (w.alloc (.cells #[.int .i64 conv, .int .i64 soft, .int .i64 seq, .int .i64 size, .int .i64 opn] T)).heap.size = w.heap.size + 1 := by simp
  rw [hsz] at g0 g1
  exact ⟨h0, h1, h2, h3, h4, g0, g1, by simp, ((Below.refl _ _).alloc (Nat.le_refl _) _).alloc (by simp) _⟩
theorem Two.below {w w' w2 : World} {conv soft seq size opn zone off : Int} (h : Two w w' conv soft seq size opn zone off) (hb : Below w'.heap.size w' w2) : Two w w2 conv soft seq size opn zone off := by
  obtain ⟨h0, h1, h2, h3, h4, h5, h6, h7, h8⟩ := h
  have hk : ∀ o, w2.cell? ⟨w.heap.size, o, none⟩ = w'.cell? ⟨w.heap.size, o, none⟩ := fun o => hb.cell (p := ⟨w.heap.size, o, none⟩) (by show w.heap.size < _; omega)
  have hj : ∀ o, w2.cell? ⟨w.heap.size + 1, o, none⟩ = w'.cell? ⟨w.heap.size + 1, o, none⟩ := fun o => hb.cell (p := ⟨w.heap.size + 1, o, none⟩) (by show w.heap.size + 1 < _; omega)
  exact ⟨(hk 0).trans h0, (hk 1).trans h1, (hk 2).trans h2, (hk 3).trans h3, (hk 4).trans h4, (hj 0).trans h5, (hj 1).trans h6, Nat.lt_of_lt_of_le h7 hb.size, h8.trans (hb.mono h8.size)⟩
theorem Two.drew {w w' : World} {conv soft seq size opn zone off : Int} (h : Two w w' conv soft seq size opn zone off) : Two w w'.drew conv soft seq size opn zone off :=
  ⟨h.1, h.2.1, h.2.2.1, h.2.2.2.1, h.2.2.2.2.1, h.2.2.2.2.2.1, h.2.2.2.2.2.2.1, h.2.2.2.2.2.2.2.1, h.2.2.2.2.2.2.2.2.drew⟩

end Go.Proofs.Ytbhcemipjfdemaa

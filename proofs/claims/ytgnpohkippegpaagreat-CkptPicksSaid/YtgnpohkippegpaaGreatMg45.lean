/-
  LfH
-/
import Derived.Test.YtgnpohkippegpaaGreatMg28
import Derived.IntWalk
/-
  The walk of the law PageOnly.
-/
namespace Go.Proofs.YtgnpohkippegpaaGreat
open Go.RowKit Word Crc Leaf
set_option linter.unusedVariables false

theorem lfread_ok {p : List Int} (h : (readS p).2 = 0) : Ok (readS p).1 ∧ layL (readS p).1 = p := by
  unfold readS at h ⊢
  split at h
  · exact absurd h (by decide)
  · rename_i h1
    rw [if_neg h1]
    split at h
    · rename_i h2
      rw [if_pos h2]
      exact ⟨of_decide_eq_true h2.1, h2.2⟩
    · exact absurd h (by decide)
theorem lfread_err (p : List Int) : (readS p).2 = 0 ∨ (readS p).2 = 7 ∨ (readS p).2 = 8 := by
  unfold readS
  split
  · exact .inr (.inr rfl)
  · split
    · exact .inl rfl
    · exact .inr (.inl rfl)
/-- a leaf with one place turned over -/
def overL (l : Lf) (k : Nat) : Lf := { l with places := l.places.set k (4294967295 - l.places.getD k 0) }
theorem overL_in {l : Lf} (h : In l) (k : Nat) : In (overL l k) := by simpa [In, overL] using h
theorem overL_ok {l : Lf} (h : Ok l) (hi : In l) {k : Nat} (hk : k < 10) : Ok (overL l k) := by
  have := h.2.2 _ (getD_mem (show k < l.places.length by unfold In at hi; omega))
  exact ⟨h.1, h.2.1, narrow_set h.2.2 k (by omega)⟩

theorem ThreeBx.set {w W : World} {T U V : TypeId} {cs ds es : List Value} {b : Nat} (h : ThreeBx w W T cs U ds b V es) (k : Nat) (v : Value) : ThreeBx w (W.setCell ⟨b, k, none⟩ v) T cs U ds b V (es.set k v) := by
  obtain ⟨⟨h1, h2, h3, h4⟩, h5, h6⟩ := h
  have e : ∀ x, x ≠ b → (W.setCell ⟨b, k, none⟩ v).heap[x]? = W.heap[x]? := fun x hx => heap_setCell_other _ _ _ _ hx
  exact ⟨⟨h1.same (e _ (by omega)), h2.same (e _ (by omega)), h3.setCell (by show w.heap.size ≤ b; omega) _, by simpa [World.setCell] using h4⟩, h5.set k v, h6⟩

end Go.Proofs.YtgnpohkippegpaaGreat

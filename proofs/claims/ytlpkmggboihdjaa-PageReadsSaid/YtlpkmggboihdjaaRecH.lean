/-
  The walks of the laws RecUnlike, RecOnly.
-/
import Derived.Test.YtlpkmggboihdjaaRecG
namespace Go.Proofs.Ytlpkmggboihdjaa
open Go.RowKit Word Crc Rec
set_option linter.unusedVariables false

/-- two records in variables of their own -/
def TwoSt (w W : World) (a b : Rc) : Prop := Box W w.heap.size 42 (rcs a) ∧ Box W (w.heap.size + 1) 42 (rcs b) ∧ Below w.heap.size w W
theorem TwoSt.on {w W W' : World} {a b : Rc} (h : TwoSt w W a b) (hb : Below W.heap.size W W') : TwoSt w W' a b := ⟨h.1.on hb, h.2.1.on hb, bthen h.2.2 hb⟩
theorem TwoSt.drew {w W : World} {a b : Rc} (h : TwoSt w W a b) : TwoSt w W.drew a b := ⟨h.1, h.2.1, h.2.2.drew⟩
theorem TwoSt.start {w w1 w2 : World} {a b : Rc} (x0 : Box w1 w.heap.size 42 (rcs a)) (hB1 : Below w.heap.size w w1) (hs1 : w1.heap.size = w.heap.size + 1) (x1 : Box w2 w1.heap.size 42 (rcs b)) (hB2 : Below w1.heap.size w1 w2) : TwoSt w w2 a b := by
  rw [hs1] at x1
  exact ⟨x0.below hB2 (by omega), x1, bthen hB1 hB2⟩

/-- a page in a variable of its own -/
def OneSt (w W : World) (p : List Int) : Prop := Box W w.heap.size 28 (bs p) ∧ Below w.heap.size w W
theorem OneSt.on {w W W' : World} {p : List Int} (h : OneSt w W p) (hb : Below W.heap.size W W') : OneSt w W' p := ⟨h.1.on hb, bthen h.2 hb⟩
theorem OneSt.drew {w W : World} {p : List Int} (h : OneSt w W p) : OneSt w W.drew p := ⟨h.1, h.2.drew⟩
theorem OneSt.store {w W W' : World} {p p' : List Int} (h : OneSt w W p) (hb : Box W' w.heap.size 28 (bs p')) (hg : W.grownBy W' (some w.heap.size)) : OneSt w W' p' := ⟨hb, below_stored h.2 hg h.2.size (Nat.le_refl _)⟩
/-- the page, and a record beside it -/
def OneSt2 (w W : World) (p : List Int) (b : Nat) (r : Rc) : Prop := OneSt w W p ∧ Box W b 42 (rcs r)
theorem OneSt2.on {w W W' : World} {p : List Int} {b : Nat} {r : Rc} (h : OneSt2 w W p b r) (hb : Below W.heap.size W W') : OneSt2 w W' p b r := ⟨h.1.on hb, h.2.on hb⟩
theorem OneSt2.drew {w W : World} {p : List Int} {b : Nat} {r : Rc} (h : OneSt2 w W p b r) : OneSt2 w W.drew p b r := ⟨h.1.drew, h.2⟩
theorem read_ok {p : List Int} (h : (readS p).2 = 0) : Ok (readS p).1 ∧ layL (readS p).1 = p := by
  unfold readS at h ⊢
  split at h
  · exact absurd h (by decide)
  · rename_i h1
    rw [if_neg h1]
    split at h
    · rename_i h2
      rw [if_pos h2]
      exact ⟨of_decide_eq_true h2.1, h2.2⟩
    · exact absurd h (by decide)
theorem read_err (p : List Int) : (readS p).2 = 0 ∨ (readS p).2 = 7 ∨ (readS p).2 = 8 := by
  unfold readS
  split
  · exact .inr (.inr rfl)
  · split
    · exact .inl rfl
    · exact .inr (.inl rfl)
def ifSealed (p : List Int) (b : Bool) : List Int := if b then sealedP p else p
theorem ifSealed_in {p : List Int} (hl : p.length = 64) (hp : octets p) (b : Bool) : (ifSealed p b).length = 64 ∧ octets (ifSealed p b) := by
  cases b
  · exact ⟨hl, hp⟩
  · exact ⟨sealedP_length hl, sealedP_octets hp⟩

end Go.Proofs.Ytlpkmggboihdjaa

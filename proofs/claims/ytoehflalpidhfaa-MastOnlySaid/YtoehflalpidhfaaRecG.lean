/-
  Layer 6: the arguments opened; the law's 'sealed'.
-/
import Derived.Test.YtoehflalpidhfaaRecF
import Derived.Test.YtoehflalpidhfaaCrcF
import Derived.Test.YtoehflalpidhfaaOpen
import Derived.Test.YtoehflalpidhfaaMix
namespace Go.Proofs.Ytoehflalpidhfaa
open Go.RowKit Word Crc Rec
set_option linter.unusedVariables false

set_option maxRecDepth 100000 in
theorem open_page {H : Type} {enc : TypeId × Value → H} {w : World} {base b0 : Nat} {r : Reach} {sp : Nat → Bool} {held : Bool} {v : Value} {d : DataW H} {ps : List MemPlace}
    (hu : Value.okWide Try.prog w r b0 28 v) (h : DataW.Trod enc Try.prog w base sp held 28 v d ps) : ∃ p : List Int, v = .agg (bs p).toArray ∧ p.length = 64 ∧ octets p := by
  obtain ⟨cs, rfl, hs⟩ := has_agg (s := .rep 64 1 (.int .u8)) 3 (by kernel_rfl) h hu (.inr ⟨_, _, Try.underlying28⟩)
  obtain ⟨ws, h1, rfl, h3⟩ := has_ints hs
  exact ⟨ws, rfl, h1, wf_u8 h3⟩
set_option maxRecDepth 100000 in
theorem open_rec {H : Type} {enc : TypeId × Value → H} {w : World} {base b0 : Nat} {r : Reach} {sp : Nat → Bool} {held : Bool} {v : Value} {d : DataW H} {ps : List MemPlace}
    (hu : Value.okWide Try.prog w r b0 53 v) (h : DataW.Trod enc Try.prog w base sp held 53 v d ps) : ∃ x : Rc, v = .agg (rcs x).toArray ∧ In x := by
  obtain ⟨cs, rfl, hs⟩ := has_agg (s := .pair 1 (.int .i64) (.pair 1 (.int .i64) (.pair 1 (.int .i64) (.pair 1 (.int .i64) (.pair 1 (.int .i64) (.pair 32 (.rep 32 1 (.int .u8)) .nil)))))) 3 (by kernel_rfl) h hu (.inl ⟨_, Try.underlying53⟩)
  obtain ⟨_, _, rfl, _, ⟨k, rfl, _⟩, _, _, rfl, _, ⟨e, rfl, _⟩, _, _, rfl, _, ⟨s, rfl, _⟩, _, _, rfl, _, ⟨b, rfl, _⟩, _, _, rfl, _, ⟨c, rfl, _⟩, _, _, rfl, _, hd, rfl⟩ := hs
  obtain ⟨ws, h1, rfl, h3⟩ := has_ints hd
  refine ⟨⟨k, e, s, b, c, ws⟩, ?_, h1, wf_u8 h3⟩
  simp [rcs, bs]

def sealedP (p : List Int) : List Int := sealed (p.take 60)
theorem sealedP_length {p : List Int} (h : p.length = 64) : (sealedP p).length = 64 := by unfold sealedP; rw [sealed_length]; simp [h]
theorem sealedP_octets {p : List Int} (h : octets p) : octets (sealedP p) := sealed_octets fun z hz => h z (List.mem_of_mem_take hz)
theorem sealedP_mix {p : List Int} (h : p.length = 64) : mix (sealedP p) p 60 = p := by
  unfold mix sealedP
  rw [sealed_take _ 60 (by simp [h]), List.take_append_drop]

/-- a page, and the answer's page beside it -/
def PgSt (w W : World) (p : List Int) : Prop := Box W w.heap.size 28 (bs p) ∧ Box W (w.heap.size + 1) 28 (bs pg0) ∧ Below w.heap.size w W ∧ w.heap.size + 2 ≤ W.heap.size
theorem PgSt.on {w W W' : World} {p : List Int} (h : PgSt w W p) (hb : Below W.heap.size W W') : PgSt w W' p := ⟨h.1.on hb, h.2.1.on hb, bthen h.2.2.1 hb, Nat.le_trans h.2.2.2 hb.size⟩
theorem PgSt.start {w w1 w2 : World} {p : List Int} (x0 : Box w1 w.heap.size 28 (bs p)) (hB1 : Below w.heap.size w w1) (hs1 : w1.heap.size = w.heap.size + 1) (x1 : Box w2 w1.heap.size 28 (bs pg0)) (hB2 : Below w1.heap.size w1 w2) (hs2 : w2.heap.size = w1.heap.size + 1) : PgSt w w2 p := by
  rw [hs1] at x1
  exact ⟨x0.below hB2 (by omega), x1, bthen hB1 hB2, by omega⟩
theorem PgSt.set {w W : World} {p : List Int} (h : PgSt w W p) (n : Nat) (v : Int) : PgSt w (W.setCell ⟨w.heap.size, n, none⟩ (.int .u8 v)) (p.set n v) := by
  refine ⟨?_, h.2.1.same (heap_setCell_other _ _ _ _ (show w.heap.size + 1 ≠ w.heap.size by omega)), h.2.2.1.setCell (Nat.le_refl _) _, by have := h.2.2.2; simpa [World.setCell] using this⟩
  have := h.1.set n (.int .u8 v)
  rwa [← bs_set] at this
theorem PgSt.rd {w W : World} {p : List Int} (h : PgSt w W p) (hp : p.length = 64) : Rd W W.heap.size (some ⟨w.heap.size, 0, none⟩) (bs p) := Rd.own (h.1.own (n := 64) (by rw [bs_length, hp]) (by decide) 0 (Nat.zero_le _))

end Go.Proofs.Ytoehflalpidhfaa

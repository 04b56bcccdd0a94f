/-
  A measure, a place as arguments; a measure in a block of its own.
-/
import Derived.Test.YtbhcemipjfdemaaGeomE
import Derived.Test.YtbhcemipjfdemaaOpen
namespace Go.Proofs.Ytbhcemipjfdemaa
open Go.RowKit Geom
set_option linter.unusedVariables false

theorem wf_i64 {x : Int} (h : (Lit.int .i64 x).wf = true) : -9223372036854775808 ≤ x ∧ x < 9223372036854775808 := by
  simp [Lit.wf, IntKind.min, IntKind.max, IntKind.signed, IntKind.bits] at h
  omega
theorem One.drew {w w' : World} {conv soft seq size opn : Int} (h : One w w' conv soft seq size opn) : One w w'.drew conv soft seq size opn := ⟨h.1.drew, h.2.drew⟩
theorem One.new (w : World) (conv soft seq size opn : Int) (T : TypeId) : One w (w.alloc (.cells #[.int .i64 conv, .int .i64 soft, .int .i64 seq, .int .i64 size, .int .i64 opn] T)) conv soft seq size opn :=
  ⟨Lies.new w conv soft seq size opn T (0, 0), (Below.refl _ _).alloc (Nat.le_refl _) _⟩

set_option maxRecDepth 100000 in
theorem open_geo {H : Type} {enc : TypeId × Value → H} {w : World} {base b0 : Nat} {r : Reach} {sp : Nat → Bool} {held : Bool} {v : Value} {d : DataW H} {ps : List MemPlace}
    (hu : Value.okWide Try.prog w r b0 23 v) (h : DataW.Trod enc Try.prog w base sp held 23 v d ps) :
    ∃ conv soft seq size opn : Int, v = .agg #[.int .i64 conv, .int .i64 soft, .int .i64 seq, .int .i64 size, .int .i64 opn] ∧ seq < 9223372036854775808 := by
  obtain ⟨cs, rfl, hs⟩ := has_agg (s := .pair 1 (.int .i64) (.pair 1 (.int .i64) (.pair 1 (.int .i64) (.pair 1 (.int .i64) (.pair 1 (.int .i64) .nil))))) 3 (by kernel_rfl) h hu (.inl ⟨_, Try.underlying23⟩)
  obtain ⟨_, _, rfl, _, ⟨conv, rfl, _⟩, _, _, rfl, _, ⟨soft, rfl, _⟩, _, _, rfl, _, ⟨seq, rfl, hw⟩, _, _, rfl, _, ⟨size, rfl, _⟩, _, _, rfl, _, ⟨opn, rfl, _⟩, rfl⟩ := hs
  exact ⟨conv, soft, seq, size, opn, rfl, (wf_i64 hw).2⟩

set_option maxRecDepth 100000 in
theorem open_place {H : Type} {enc : TypeId × Value → H} {w : World} {base b0 : Nat} {r : Reach} {sp : Nat → Bool} {held : Bool} {v : Value} {d : DataW H} {ps : List MemPlace}
    (hu : Value.okWide Try.prog w r b0 48 v) (h : DataW.Trod enc Try.prog w base sp held 48 v d ps) :
    ∃ zone off : Int, v = .agg #[.int .i64 zone, .int .i64 off] := by
  obtain ⟨cs, rfl, hs⟩ := has_agg (s := .pair 1 (.int .i64) (.pair 1 (.int .i64) .nil)) 3 (by kernel_rfl) h hu (.inl ⟨_, Try.underlying48⟩)
  obtain ⟨_, _, rfl, _, ⟨zone, rfl, _⟩, _, _, rfl, _, ⟨off, rfl, _⟩, rfl⟩ := hs
  exact ⟨zone, off, rfl⟩

end Go.Proofs.Ytbhcemipjfdemaa

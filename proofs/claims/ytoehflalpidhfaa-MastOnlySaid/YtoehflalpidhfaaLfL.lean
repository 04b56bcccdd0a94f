/-
  The document's answers for layer 7: Lay.
-/
import Derived.Test.YtoehflalpidhfaaLfG
import Derived.Test.YtoehflalpidhfaaLfJ
namespace Go.Proofs.Ytoehflalpidhfaa
open Go.RowKit Word Crc Leaf
set_option linter.unusedVariables false

theorem TwoBx.grew {w W W' : World} {T U : TypeId} {cs ds : List Value} (h : TwoBx w W T cs U ds) (hb : Below (w.heap.size + 2) W W') : TwoBx w W' T cs U ds := ⟨h.1.below hb (by omega), h.2.1.below hb (by omega), h.2.2.1.trans (hb.mono (by omega)), Nat.le_trans h.2.2.2 hb.size⟩
theorem layL_pad (l : Lf) (h : In l) : sealed (pad ([128] ++ le 8 l.gen ++ le 4 l.index ++ flat l.places)) = layL l := by
  unfold In at h
  have e : pad ([128] ++ le 8 l.gen ++ le 4 l.index ++ flat l.places) = front l := by
    have hl : (([128] : List Int) ++ le 8 l.gen ++ le 4 l.index ++ flat l.places).length = 53 := by simp [le_length, flat_length, h]
    unfold pad front
    rw [hl]
    simp only [List.append_assoc]
  rw [e]
  rfl

end Go.Proofs.Ytoehflalpidhfaa

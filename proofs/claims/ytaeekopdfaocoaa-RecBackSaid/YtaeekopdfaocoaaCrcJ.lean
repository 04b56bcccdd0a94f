/-
  The walks of the laws CrcTears, CrcKeeps.
-/
import Derived.Test.YtaeekopdfaocoaaCrcF
import Derived.Test.YtaeekopdfaocoaaOpen
namespace Go.Proofs.Ytaeekopdfaocoaa
open Go.RowKit Word Crc
set_option linter.unusedVariables false

/-- zs with the first i of ws laid from k on -/
def tear (zs ws : List Int) (k i : Nat) : List Int := zs.take k ++ (ws.take i ++ zs.drop (k + i))
theorem tear_zero (zs ws : List Int) (k : Nat) : tear zs ws k 0 = zs := by simp [tear]
theorem tear_succ (zs ws : List Int) (k i : Nat) (h : k + i < zs.length) (hi : i < ws.length) : (tear zs ws k i).set (k + i) (ws.getD i 0) = tear zs ws k (i + 1) := by
  unfold tear
  have e1 : (zs.take k).length = k := by simp; omega
  have e2 : (ws.take i).length = i := by simp; omega
  rw [List.set_append_right _ _ (by omega), List.set_append_right _ _ (by omega), e1, e2, show k + i - k - i = 0 by omega, List.drop_eq_getElem_cons h, List.set_cons_zero,
    List.take_succ_eq_append_getElem hi, List.append_assoc]
  simp [List.getD_eq_getElem?_getD, hi, Nat.add_assoc]
theorem tear_length (zs ws : List Int) (k i : Nat) (h : k + i ≤ zs.length) (hi : i ≤ ws.length) : (tear zs ws k i).length = zs.length := by
  simp [tear]; omega
theorem tear_octets {zs ws : List Int} (hz : octets zs) (hw : octets ws) (k i : Nat) : octets (tear zs ws k i) := by
  intro y hy
  unfold tear at hy
  rcases List.mem_append.1 hy with h | h
  · exact hz y (List.mem_of_mem_take h)
  · rcases List.mem_append.1 h with h | h
    · exact hw y (List.mem_of_mem_take h)
    · exact hz y (List.mem_of_mem_drop h)
theorem tear_sum (zs ws : List Int) (k : Nat) (hz : octets zs) (hw : octets ws) (h4 : ws.length = 4) (hk : k + 4 ≤ zs.length) :
    ((((Crc.sum zs : Nat) : Int) == ((Crc.sum (tear zs ws k 4) : Nat) : Int)) == (zs == tear zs ws k 4)) = true := by
  rw [beq_iff_eq, Bool.eq_iff_iff, beq_iff_eq, beq_iff_eq]
  constructor
  · intro h
    have h' : Crc.sum zs = Crc.sum (tear zs ws k 4) := by omega
    obtain ⟨a, b, c, d, e⟩ : ∃ a b c d, ws = [a, b, c, d] := by
      match ws, h4 with
      | [a, b, c, d], _ => exact ⟨a, b, c, d, rfl⟩
    subst e
    have hm : ((zs.drop k).take 4).length = 4 := by simp; omega
    obtain ⟨a', b', c', d', e⟩ : ∃ a b c d, (zs.drop k).take 4 = [a, b, c, d] := by
      match (zs.drop k).take 4, hm with
      | [a, b, c, d], _ => exact ⟨a, b, c, d, rfl⟩
    have hzs : zs = zs.take k ++ ([a', b', c', d'] ++ zs.drop (k + 4)) := by
      rw [← e, ← List.drop_drop, List.take_append_drop, List.take_append_drop]
    have ho : ∀ y ∈ [a', b', c', d'], 0 ≤ y ∧ y ≤ 255 := fun y hy => hz y (List.mem_of_mem_drop (List.mem_of_mem_take (by rw [e]; exact hy)))
    have hcut := sum_tear (xs := zs.take k) (ys := zs.drop (k + 4)) (fun y hy => hz y (List.mem_of_mem_take hy)) (fun y hy => hz y (List.mem_of_mem_drop hy))
      (ho a' (by simp)) (ho b' (by simp)) (ho c' (by simp)) (ho d' (by simp)) (hw a (by simp)) (hw b (by simp)) (hw c (by simp)) (hw d (by simp)) (by
        rw [← hzs]
        simpa [tear] using h')
    show zs = zs.take k ++ ([a, b, c, d].take 4 ++ zs.drop (k + 4))
    rw [show [a, b, c, d].take 4 = [a, b, c, d] from rfl, ← hcut, ← hzs]
  · intro h
    rw [← h]

theorem open_four {H : Type} {enc : TypeId × Value → H} {w : World} {base b0 : Nat} {r : Reach} {sp : Nat → Bool} {held : Bool} {v : Value} {d : DataW H} {ps : List MemPlace}
    (hu : Value.okWide Try.prog w r b0 38 v) (h : DataW.Trod enc Try.prog w base sp held 38 v d ps) : ∃ ws : List Int, v = .agg (bs ws).toArray ∧ ws.length = 4 ∧ octets ws := by
  obtain ⟨cs, rfl, hs⟩ := has_agg (s := .rep 4 1 (.int .u8)) 3 (by kernel_rfl) h hu (.inr ⟨_, _, Try.underlying38⟩)
  obtain ⟨ws, h1, rfl, h3⟩ := has_ints hs
  exact ⟨ws, rfl, h1, wf_u8 h3⟩
end Go.Proofs.Ytaeekopdfaocoaa

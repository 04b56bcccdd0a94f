/-
  'Same' of layer 9's answers: are two lists of numbers one?
-/
import Derived.Test.YtkbgogofedppgaaLf0
import Derived.Test.YtkbgogofedppgaaClass
namespace Go.Proofs.Ytkbgogofedppgaa
open Go.RowKit Leaf
set_option linter.unusedVariables false

theorem isame_any (A A' : Option Addr) (len cap len' cap' : Nat) (w : World) (hl : len ≤ maxLen) (hl' : len' ≤ maxLen) (xs ys : List Int) (hx : xs.length = len) (hy : ys.length = len')
    (B : Nat) (hr : Rd w B A (is xs)) (hr' : Rd w B A' (is ys)) :
    Calls Try.prog 9 #[.slice A len cap, .slice A' len' cap'] w fun e w' => e = .returned (.bool (xs == ys)) ∧ ∃ n, w.drewN n = w' := by
  have HX := Lib.hid hx
  have HY := Lib.hid hy
  clear hx hy
  unfold maxLen at hl hl'
  by_cases hne : len = len'
  · subst hne
    go_enter Try.func9, Try.ntmps9
    go_wp2
    go_loopw [5] (fun i wr => ∃ k : Nat, k ≤ len ∧ i = .int .i64 k ∧ xs.take k = ys.take k ∧ ∃ n, w.drewN n = wr) (fun i _ => len - (intOf i).toNat)
    case atStart => exact ⟨0, by omega, rfl, rfl, 0, rfl⟩
    case round =>
      obtain ⟨k, hk, rfl, HT, q, rfl⟩ := hrel
      have HT := Lib.hid HT
      by_cases hlt : k < len
      · have hx := hr.at (is_get (k := k) (by rw [HX.out]; omega))
        have hy := hr'.at (is_get (k := k) (by rw [HY.out]; omega))
        obtain ⟨ad, rfl, _, hc⟩ := hx
        obtain ⟨ad', rfl, _, hc'⟩ := hy
        have e : xs.take (k + 1) = xs.take k ++ [xs.getD k 0] := by rw [List.take_succ_eq_append_getElem (by rw [HX.out]; omega)]; simp [HX.out, hlt]
        have e' : ys.take (k + 1) = ys.take k ++ [ys.getD k 0] := by rw [List.take_succ_eq_append_getElem (by rw [HY.out]; omega)]; simp [HY.out, hlt]
        generalize xs.getD k 0 = c at hc e
        generalize ys.getD k 0 = c' at hc' e'
        have HE := Lib.hid e
        have HE' := Lib.hid e'
        clear e e' hr hr'
        by_cases hcc : c = c'
        · subst hcc
          have hq : (c != c) = false := by simp
          go_wp2
          go_quiet (fail)
          go_wp2
          go_roundw
          case rel => exact ⟨k + 1, by omega, by go_num, by rw [HE.out, HE'.out, HT.out], _, rfl⟩
          case measure => simp [intOf]; omega
        · have hq : (c != c') = true := by simp [hcc]
          have hxy : (xs == ys) = false := by
            rw [beq_eq_false_iff_ne]
            rintro rfl
            have h := HE.out.symm.trans HE'.out
            simp at h
            exact hcc h
          have HXY := Lib.hid hxy
          clear hxy
          go_wp2
          go_quiet (fail)
          go_wp2
          go_ret
          exact ⟨ret_bool HXY.out, _, (World.drewN_drewN ..).symm⟩
      · obtain rfl : len = k := by omega
        have HXY := Lib.hid (show (xs == ys) = true by
          have h := HT.out
          rw [List.take_of_length_le (by rw [HX.out]; omega), List.take_of_length_le (by rw [HY.out]; omega)] at h
          rw [h, beq_self_eq_true])
        go_wp2
        go_ret
        exact ⟨ret_bool HXY.out, _, rfl⟩
  · have HXY := Lib.hid (show (xs == ys) = false by
      rw [beq_eq_false_iff_ne]
      rintro rfl
      have h1 := HX.out
      have h2 := HY.out
      omega)
    have hq : ((len : Int) != (len' : Int)) = true := by rw [bne_iff_ne]; omega
    go_enter Try.func9, Try.ntmps9
    go_wp2
    go_ret
    exact ⟨ret_bool HXY.out, 0, rfl⟩
end Go.Proofs.Ytkbgogofedppgaa

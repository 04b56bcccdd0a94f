/-
  What the document's answers for package geom do: At, Num.
-/
import Derived.Test.YtajehmdmgkhkpaaGeomE
namespace Go.Proofs.Ytajehmdmgkhkpaa
open Go.RowKit Geom
set_option linter.unusedVariables false

theorem off_by (n k size : Int) : n - (k + 1) * size = n - k * size - size := by rw [Int.add_mul, Int.one_mul]; omega

set_option maxHeartbeats 1000000 in
theorem rat_any (conv soft seq size opn n : Int) (w : World) (H : Some conv seq size) (hn : -9223372036854775808 ≤ n ∧ n < 9223372036854775808) :
    Calls Try.prog 20 #[.agg #[.int .i64 conv, .int .i64 soft, .int .i64 seq, .int .i64 size, .int .i64 opn], .int .i64 n] w fun e w' => e = .returned (.tuple #[.agg #[.int .i64 (zoneOf conv seq size n), .int .i64 (offOf seq size n)], .bool (isB seq size n)]) ∧ Below w.heap.size w w' := by
  have hp := seats_bd H
  obtain ⟨q1, q2, q3, q4, q5⟩ := H
  obtain ⟨hn0, hn1⟩ := hn
  have HK := Lib.hid (fun (k : Int) (h : 0 ≤ k) (h2 : k ≤ seq) => mul_in h (show k ≤ 64 by omega) (show 0 ≤ size by omega) q5)
  by_cases hneg : n < 1
  · have HD := Lib.hid (show isB seq size n = false from decide_eq_false (by omega))
    have HZ := Lib.hid (show zoneOf conv seq size n = 0 from if_neg (by omega))
    have HO := Lib.hid (show offOf seq size n = 0 from if_neg (by omega))
    go_enter Try.func20, Try.ntmps20
    go_wp2
    go_loop [1, 6] (fun m z => m = .int .i64 n ∧ z = .int .i64 conv) (fun _ _ => 0)
    case atStart => exact ⟨rfl, rfl⟩
    case round =>
      obtain ⟨rfl, rfl⟩ := hrel
      go_wp2
      refine bodyPost_ret (v := .tuple #[.agg #[.int .i64 0, .int .i64 0], .bool false]) (by simp [results, Try.results20, go_sem]) rfl ⟨by rw [HD.out, HZ.out, HO.out], ?_⟩
      exact ((Below.refl _ _).alloc (Nat.le_refl _) _).alloc (by simp) _
  · have HS := Lib.hid (show 0 < size ∧ 1 ≤ n from ⟨by omega, by omega⟩)
    go_enter Try.func20, Try.ntmps20
    go_wp2
    go_loop [1, 6] (fun m z => ∃ k : Int, 0 ≤ k ∧ k ≤ seq ∧ 1 ≤ n - k * size ∧ m = .int .i64 (n - k * size) ∧ z = .int .i64 (conv + k)) (fun _ z => (conv + seq - intOf z).toNat)
    case atStart => exact ⟨0, by omega, by omega, by omega, by simp, by simp⟩
    case round =>
      obtain ⟨k, hk0, hk1, hge, rfl, rfl⟩ := hrel
      obtain ⟨m0, m1⟩ := HK.out k hk0 hk1
      have HF := Lib.hid (off_by n k size)
      by_cases hlt : k < seq
      · by_cases hin : n - k * size ≤ size
        · have hkk : (n - 1) / size = k := by
            have hs := HS.out
            apply Int.le_antisymm
            · have := (Int.ediv_lt_iff_lt_mul hs.1 (a := n - 1) (b := k + 1)).2 (by rw [Int.add_mul, Int.one_mul]; omega)
              omega
            · exact (Int.le_ediv_iff_mul_le hs.1).2 (by omega)
          have hoo : (n - 1) % size = n - k * size - 1 := by
            have := Int.mul_ediv_add_emod (n - 1) size
            rw [hkk, Int.mul_comm] at this
            omega
          have hin2 : 1 ≤ n ∧ n ≤ seq * size := by
            have h1 : (k + 1) * size ≤ seq * size := Int.mul_le_mul_of_nonneg_right (by omega) (by omega)
            rw [Int.add_mul, Int.one_mul] at h1
            omega
          have HD := Lib.hid (show isB seq size n = true from decide_eq_true hin2)
          have HZ := Lib.hid (show zoneOf conv seq size n = conv + k from (if_pos hin2).trans (by rw [hkk]))
          have HO := Lib.hid (show offOf seq size n = n - k * size - 1 from (if_pos hin2).trans hoo)
          clear hkk hoo hin2
          generalize k * size = m at *
          go_wp2
          refine bodyPost_ret (v := .tuple #[.agg #[.int .i64 (conv + k), .int .i64 (n - m - 1)], .bool true]) (by simp [results, Try.results20, go_sem]) rfl ⟨by rw [HD.out, HZ.out, HO.out], ?_⟩
          exact ((Below.refl _ _).alloc (Nat.le_refl _) _).alloc (by simp) _
        · generalize k * size = m at *
          go_wp2
          go_round
          case rel => exact ⟨k + 1, by omega, by omega, by rw [HF.out]; omega, by rw [HF.out], by go_num⟩
          case measure => simp [intOf]; omega
      · obtain rfl : k = seq := by omega
        have HD := Lib.hid (show isB k size n = false from decide_eq_false (by omega))
        have HZ := Lib.hid (show zoneOf conv k size n = 0 from if_neg (by omega))
        have HO := Lib.hid (show offOf k size n = 0 from if_neg (by omega))
        generalize k * size = m at *
        go_wp2
        refine bodyPost_ret (v := .tuple #[.agg #[.int .i64 0, .int .i64 0], .bool false]) (by simp [results, Try.results20, go_sem]) rfl ⟨by rw [HD.out, HZ.out, HO.out], ?_⟩
        exact ((Below.refl _ _).alloc (Nat.le_refl _) _).alloc (by simp) _

/-- the place is not among the first k zones -/
def Not (conv zone size off k : Int) : Prop := ¬ (conv ≤ zone ∧ zone < conv + k ∧ 0 ≤ off ∧ off < size)
/-- nor among the first j sectors of the next one -/
def NotIn (conv zone off k j : Int) : Prop := ¬ (zone = conv + k ∧ 0 ≤ off ∧ off < j)

set_option maxHeartbeats 1000000 in
theorem rnum_any (conv soft seq size opn zone off : Int) (w : World) (H : Some conv seq size) :
    Calls Try.prog 34 #[.agg #[.int .i64 conv, .int .i64 soft, .int .i64 seq, .int .i64 size, .int .i64 opn], .agg #[.int .i64 zone, .int .i64 off]] w fun e w' => e = .returned (.int .i64 (num conv seq size zone off)) ∧ Below w.heap.size w w' := by
  have h0 := (Two.new w conv soft seq size opn zone off 23 50).2.2.2.2.2.2.2.2
  obtain ⟨q1, q2, q3, q4, q5⟩ := H
  have HK := Lib.hid (fun (k : Int) (h : 0 ≤ k) (h2 : k ≤ seq) => mul_in h (show k ≤ 64 by omega) (show 0 ≤ size by omega) q5)
  go_enter Try.func34, Try.ntmps34
  go_wp2
  go_loop [5, 6, 7] (fun n z o => ∃ k : Int, 0 ≤ k ∧ k ≤ seq ∧ Not conv zone size off k ∧ n = .int .i64 (k * size) ∧ z = .int .i64 (conv + k)) (fun _ z _ => (conv + seq - intOf z).toNat)
  case atStart => exact ⟨0, by omega, by omega, by unfold Not; omega, by simp, by simp⟩
  case round =>
    obtain ⟨k, hk0, hk1, hnot, rfl, rfl⟩ := hrel
    obtain ⟨m0, m1⟩ := HK.out k hk0 hk1
    by_cases hlt : k < seq
    · have HF := Lib.hid (show (k + 1) * size = k * size + size by rw [Int.add_mul, Int.one_mul])
      have HM := Lib.hid (show k * size = k * size from rfl)
      have HS := Lib.hid (show Seat conv seq size zone off → num conv seq size zone off = (zone - conv) * size + off + 1 from fun h => if_pos h)
      go_wp2
      go_loop [5, 7] (fun n o => ∃ j : Int, 0 ≤ j ∧ j ≤ size ∧ NotIn conv zone off k j ∧ n = .int .i64 (k * size + j) ∧ o = .int .i64 j) (fun _ o => (size - intOf o).toNat)
      case atStart => exact ⟨0, by omega, by omega, by unfold NotIn; omega, by simp, rfl⟩
      case round =>
        obtain ⟨j, hj0, hj1, hni, rfl, rfl⟩ := hrel
        by_cases hjlt : j < size
        · by_cases e1 : zone = conv + k
          · by_cases e2 : off = j
            · have HR := Lib.hid (show num conv seq size zone off = k * size + j + 1 by
                rw [HS.out ⟨by omega, by omega, by omega, by omega⟩, e1, e2, show conv + k - conv = k by omega])
              subst e1 e2
              generalize k * size = m at *
              go_wp2
              go_ret
              exact ⟨ret_int HR.out, h0⟩
            · have HX := Lib.hid (show NotIn conv zone off k (j + 1) by unfold NotIn at *; omega)
              have hb : (off == j) = false := by simpa using e2
              subst e1
              generalize k * size = m at *
              go_wp2
              go_round
              case rel => exact ⟨j + 1, by omega, by omega, HX.out, by go_num, rfl⟩
              case measure => simp [intOf]; omega
          · have HX := Lib.hid (show NotIn conv zone off k (j + 1) by unfold NotIn at *; omega)
            have hb : (zone == conv + k) = false := by simpa using e1
            generalize k * size = m at *
            go_wp2
            go_round
            case rel => exact ⟨j + 1, by omega, by omega, HX.out, by go_num, rfl⟩
            case measure => simp [intOf]; omega
        · obtain rfl : j = size := by omega
          have HX := Lib.hid (show Not conv zone j off (k + 1) by unfold Not NotIn at *; omega)
          generalize k * j = m at *
          go_wp2
          go_round
          case rel => exact ⟨k + 1, by omega, by omega, HX.out, by rw [HF.out], by go_num⟩
          case measure => simp [intOf]; omega
    · obtain rfl : k = seq := by omega
      have HR := Lib.hid (show num conv k size zone off = 0 from if_neg hnot)
      generalize k * size = m at *
      go_wp2
      go_ret
      exact ⟨ret_int HR.out, h0⟩
end Go.Proofs.Ytajehmdmgkhkpaa

/-
  Package zone: how many are open (by the program, by the document); a copy of zones; zones with another one in a place; are two lists of zones one; is there such a sector.
-/
import Derived.Test.YtnpnnejopibjcaaZoneE
import Derived.Test.YtnpnnejopibjcaaOpen
namespace Go.Proofs.Ytnpnnejopibjcaa
open Go.RowKit Geom Zone
set_option linter.unusedVariables false

/-- a zone of zones that lie in a row -/
theorem Rd.zone {w : World} {B k : Nat} {A : Option Addr} {L : List Z} {z : Z} (h : Rd w B A (zc L)) (hz : L[k]? = some z) :
    ∃ ad, A = some ad ∧ ad.block < B ∧ w.cell? (ad.add (k * 2)) = some (.int .i64 z.1) ∧ w.cell? ⟨(ad.add (k * 2)).block, (ad.add (k * 2)).off + 1, none⟩ = some (.int .i64 z.2) := by
  obtain ⟨ad, rfl, hb, hc⟩ := h.at (zc_get0 hz)
  exact ⟨ad, rfl, hb, hc, by
    have e : (⟨(ad.add (k * 2)).block, (ad.add (k * 2)).off + 1, none⟩ : Addr) = (ad.add (k * 2)).add 1 := by simp [Addr.add]
    rw [e, addr_add_add]
    exact h.tail_at (zc_get1 hz)⟩
theorem cnt_same {L : List Z} {k : Nat} {z : Z} (h : L[k]? = some z) (h1 : ¬ z.1 = 1) : cnt (L.take (k + 1)) = cnt (L.take k) := by
  rw [cnt_take h, if_neg h1]
  rfl
theorem cnt_more {L : List Z} {k : Nat} {z : Z} (h : L[k]? = some z) (h1 : z.1 = 1) : cnt (L.take (k + 1)) = cnt (L.take k) + 1 := by
  rw [cnt_take h, if_pos h1]

theorem ropened_any (A : Option Addr) (n cap : Nat) (L : List Z) (w : World) (hm : n ≤ maxLen) (hn : L.length = n) (B : Nat) (hr : Rd w B A (zc L)) :
    Calls Try.prog 28 #[.slice A n cap] w fun e w' => e = .returned (.int .i64 (cnt L)) ∧ w = w' := by
  unfold maxLen at hm
  have HN := Lib.hid hn
  clear hn
  go_enter Try.func28, Try.ntmps28
  go_wp2
  go_loopw [3, 4] (fun c i wr => ∃ k : Nat, k ≤ n ∧ i = .int .i64 k ∧ c = .int .i64 (cnt (L.take k)) ∧ w = wr) (fun _ i _ => n - (intOf i).toNat)
  case atStart => exact ⟨0, by omega, rfl, rfl, rfl⟩
  case round =>
    obtain ⟨k, hk, rfl, rfl, rfl⟩ := hrel
    by_cases hlt : k < n
    · have hz := getD_of (L := L) (k := k) (d := (0, 0)) (by rw [HN.out]; exact hlt)
      obtain ⟨ad, rfl, _, hc, _⟩ := hr.zone hz
      have hle := cnt_take_le L k
      generalize L.getD k (0, 0) = z at *
      by_cases h1 : z.1 = 1
      · have HT := Lib.hid (cnt_more hz h1)
        have hd : (z.1 == 1) = true := by simpa using h1
        clear hz
        generalize cnt (L.take k) = c at *
        go_wp2
        go_roundw
        case rel => exact ⟨k + 1, by omega, by go_num, by rw [HT.out]; go_num, trivial⟩
        case measure => simp [intOf]; omega
      · have HT := Lib.hid (cnt_same hz h1)
        have hd : (z.1 == 1) = false := by simpa using h1
        clear hz
        generalize cnt (L.take k) = c at *
        go_wp2
        go_roundw
        case rel => exact ⟨k + 1, by omega, by go_num, by rw [HT.out], trivial⟩
        case measure => simp [intOf]; omega
    · obtain rfl : n = k := by omega
      have HT := Lib.hid (show cnt (L.take n) = cnt L by rw [List.take_of_length_le (by rw [HN.out]; exact Nat.le_refl _)])
      go_wp2
      go_ret
      exact ⟨ret_nat HT.out.symm, rfl⟩

end Go.Proofs.Ytnpnnejopibjcaa

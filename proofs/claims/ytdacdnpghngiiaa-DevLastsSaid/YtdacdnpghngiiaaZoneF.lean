/-
  Package zone: how many are open (by the program, by the document); a copy of zones; zones with another one in a place; are two lists of zones one; is there such a sector.
-/
import Derived.Test.YtdacdnpghngiiaaZoneE
import Derived.Test.YtdacdnpghngiiaaOpen
namespace Go.Proofs.Ytdacdnpghngiiaa
open Go.RowKit Geom Zone
set_option linter.unusedVariables false

/-- a zone of zones that lie in a row -/
theorem Rd.zone {w : World} {B k : Nat} {A : Option Addr} {L : List Z} {z : Z} (h : Rd w B A (zc L)) (hz : L[k]? = some z) :
    ∃ ad, A = some ad ∧ ad.block < B ∧ w.cell? (ad.add (k * 2)) = some (.int .i64 z.1) ∧ w.cell? ⟨(ad.add (k * 2)).block, (ad.add (k * 2)).off + 1, none⟩ = some (.int .i64 z.2) := by
  obtain ⟨ad, rfl, hb, hc⟩ := h.at (zc_get0 hz)
  exact ⟨ad, rfl, hb, hc, by
    have e : (⟨(ad.add (k * 2)).block, (ad.add (k * 2)).off + 1, none⟩ : Addr) = (ad.add (k * 2)).add 1 := by simp [Addr.add]
    rw [e, addr_add_add]
    exact h.tail_at (zc_get1 hz)⟩
theorem cnt_same {L : List Z} {k : Nat} {z : Z} (h : L[k]? = some z) (h1 : ¬ z.1 = 1) : cnt (L.take (k + 1)) = cnt (L.take k) := by
  rw [cnt_take h, if_neg h1]
  rfl
theorem cnt_more {L : List Z} {k : Nat} {z : Z} (h : L[k]? = some z) (h1 : z.1 = 1) : cnt (L.take (k + 1)) = cnt (L.take k) + 1 := by
  rw [cnt_take h, if_pos h1]

theorem ropened_any (A : Option Addr) (n cap : Nat) (L : List Z) (w : World) (hm : n ≤ maxLen) (hn : L.length = n) (B : Nat) (hr : Rd w B A (zc L)) :
    Calls Try.prog 53 #[.slice A n cap] w fun e w' => e = .returned (.int .i64 (cnt L)) ∧ w = w' := by
  unfold maxLen at hm
  have HN := Lib.hid hn
  clear hn
  go_enter Try.func53, Try.ntmps53
  go_wp2
  go_loopw [3, 4] (fun c i wr => ∃ k : Nat, k ≤ n ∧ i = .int .i64 k ∧ c = .int .i64 (cnt (L.take k)) ∧ w = wr) (fun _ i _ => n - (intOf i).toNat)
  case atStart => exact ⟨0, by omega, rfl, rfl, rfl⟩
  case round =>
    obtain ⟨k, hk, rfl, rfl, rfl⟩ := hrel
    by_cases hlt : k < n
    · have hz := getD_of (L := L) (k := k) (d := (0, 0)) (by rw [HN.out]; exact hlt)
      obtain ⟨ad, rfl, _, hc, _⟩ := hr.zone hz
      have hle := cnt_take_le L k
      generalize L.getD k (0, 0) = z at *
      by_cases h1 : z.1 = 1
      · have HT := Lib.hid (cnt_more hz h1)
        have hd : (z.1 == 1) = true := by simpa using h1
        clear hz
        generalize cnt (L.take k) = c at *
        go_wp2
        go_roundw
        case rel => exact ⟨k + 1, by omega, by go_num, by rw [HT.out]; go_num, trivial⟩
        case measure => simp [intOf]; omega
      · have HT := Lib.hid (cnt_same hz h1)
        have hd : (z.1 == 1) = false := by simpa using h1
        clear hz
        generalize cnt (L.take k) = c at *
        go_wp2
        go_roundw
        case rel => exact ⟨k + 1, by omega, by go_num, by rw [HT.out], trivial⟩
        case measure => simp [intOf]; omega
    · obtain rfl : n = k := by omega
      have HT := Lib.hid (show cnt (L.take n) = cnt L by rw [List.take_of_length_le (by rw [HN.out]; exact Nat.le_refl _)])
      go_wp2
      go_ret
      exact ⟨ret_nat HT.out.symm, rfl⟩

theorem countOpen_any (A : Option Addr) (n cap : Nat) (L : List Z) (w : World) (hm : n ≤ maxLen) (hn : L.length = n) (hr : Rd w w.heap.size A (zc L)) :
    Calls Try.prog 82 #[.slice A n cap] w fun e w' => e = .returned (.int .i64 (cnt L)) ∧ Below w.heap.size w w' := by
  unfold maxLen at hm
  have HN := Lib.hid hn
  clear hn
  go_enter Try.func82, Try.ntmps82
  go_wp2
  go_loopw [3, 8] (fun c i wr => ∃ k : Nat, k ≤ n ∧ i = .int .i64 k ∧ c = .int .i64 (cnt (L.take k)) ∧ Below w.heap.size w wr) (fun _ i _ => n - (intOf i).toNat)
  case atStart => exact ⟨0, by omega, rfl, rfl, Below.refl _ _⟩
  case round =>
    obtain ⟨k, hk, rfl, rfl, hbl⟩ := hrel
    by_cases hlt : k < n
    · have hz := getD_of (L := L) (k := k) (d := (0, 0)) (by rw [HN.out]; exact hlt)
      have hrw := (hr.below hbl)
      obtain ⟨ad, rfl, _, hc, hc1⟩ := hrw.zone hz
      have hsz := hbl.size
      have hb2 := Lib.hid fun o => hbl.alloc hsz o
      have hle := cnt_take_le L k
      generalize L.getD k (0, 0) = z at *
      clear hrw hr
      by_cases h1 : z.1 = 1
      · have HT := Lib.hid (cnt_more hz h1)
        have hd : (z.1 == 1) = true := by simpa using h1
        clear hz hbl hsz
        generalize cnt (L.take k) = c at *
        go_wp2
        go_roundw
        case rel => exact ⟨k + 1, by omega, by go_num, by rw [HT.out]; go_num, hb2.out _⟩
        case measure => simp [intOf]; omega
      · have HT := Lib.hid (cnt_same hz h1)
        have hd : (z.1 == 1) = false := by simpa using h1
        clear hz hbl hsz
        generalize cnt (L.take k) = c at *
        go_wp2
        go_roundw
        case rel => exact ⟨k + 1, by omega, by go_num, by rw [HT.out], hb2.out _⟩
        case measure => simp [intOf]; omega
    · obtain rfl : n = k := by omega
      have HT := Lib.hid (show cnt (L.take n) = cnt L by rw [List.take_of_length_le (by rw [HN.out]; exact Nat.le_refl _)])
      go_wp2
      go_ret
      exact ⟨ret_nat HT.out.symm, hbl⟩

theorem clone_any (A : Option Addr) (n cap : Nat) (L : List Z) (w : World) (hm : n ≤ 1000) (hn : L.length = n) (h0 : 0 < n) (hr : Rd w w.heap.size A (zc L)) :
    Calls Try.prog 32 #[.slice A n cap] w fun e w' => ∃ g c, e = .returned (.slice (some ⟨g, 0, none⟩) n c) ∧ w'.ownsRow w.heap.size 45 2 (.slice (some ⟨g, 0, none⟩) n c) n (zc L) ∧ Below w.heap.size w w' := by
  have qN := isnil_zone
  obtain ⟨ad, rfl, _, _⟩ := hr (zc_ne (by omega))
  have HL := Lib.hid (show (zc L).length = n * 2 by rw [zc_length, hn])
  clear hn
  go_enter Try.func32, Try.ntmps32
  go_wp2_with (at_builtin; refine wpList_append_copy _ rfl _ _ _ rfl 45 _ 2 16 elemZ rfl (some ad) n cap rfl (zc L) HL.out hr (fun _ => zc_one) (by simp only [maxLen]; omega) (by omega) ?_; intro A2 c2 w2 hown hb2)
  obtain ⟨g, rfl, _, _⟩ := own_at hown h0
  go_ret
  exact ⟨g, c2, rfl, hown, hb2⟩
end Go.Proofs.Ytdacdnpghngiiaa

/-
  What the document's Seal for package crc does; 'awake' answers true.
-/
import Derived.Test.YtoehflalpidhfaaCrcE
import Derived.Lib.SlBytesConst
namespace Go.Proofs.Ytoehflalpidhfaa
open Go.RowKit Word Crc
set_option linter.unusedVariables false

set_option maxHeartbeats 400000 in
theorem rseal_any (A : Option Addr) (len cap : Nat) (zs : List Int) (w : World) (hl : len ≤ 65536) (hlen : zs.length = len) (hb : octets zs) (hr : Rd w w.heap.size A (bs zs)) :
    Calls Try.prog 13 #[.slice A len cap] w fun e w' => ∃ A' c', e = .returned (.slice A' (len + 4) c') ∧
      w'.ownsRow w.heap.size 5 1 (.slice A' (len + 4) c') (len + 4) (bs (sealed zs)) ∧ Below w.heap.size w w' := by
  have HB := Lib.hid (show (bs zs).length = len by rw [bs_length, hlen])
  have HSum := Lib.hid fun w hr => rsum_any A len cap zs w hl hlen hb hr
  have HS := Lib.hid (show sealed zs = zs ++ le 4 (Crc.sum zs : Nat) from rfl)
  have hsl := sum_lt hb
  generalize sealed zs = res at *
  generalize Crc.sum zs = sm at *
  clear hlen
  go_enter Try.func13, Try.ntmps13
  go_wp2_with (first
    | (at_builtin; refine wpList_append_rd _ rfl _ _ _ rfl w.heap.size 5 _ 1 1 elem8 (.slice none 0 0) 0 [] rfl (World.ownsRow_nil _ _ _ _) w.heap.size A len cap (bs zs) rfl (by rw [HB.out]; omega) hr (bs_one zs) (by unfold maxLen; omega) (by omega) (Nat.le_refl _) ?_; intro v1 w1 hown1 hg1 hat1)
    | fail)
  rw [Nat.zero_add, List.nil_append] at hown1
  have hb1 : Below w.heap.size w w1 := (Below.refl _ _).grown hg1 (Nat.le_refl _) (fun k hk => by cases hk)
  clear hg1 hat1
  go_wp2_with (go_at_call 33; refine (HSum.out _ ((hr.below hb1).more hb1.size)).mono ?_; rintro e w2 ⟨rfl, hb2⟩)
  have hb3 : Below w.heap.size w w2 := hb1.trans (hb2.mono hb1.size)
  have hown2 := own_below hown1 hb2
  clear hown1 HSum
  go_loopw [3, 4, 5] (fun o s i wr => ∃ k : Nat, k ≤ 4 ∧ i = .int .i64 k ∧ s = .int .u32 ((sm : Int) / 2 ^ (8 * k)) ∧ wr.ownsRow w.heap.size 5 1 o (len + k) (bs (zs ++ le k sm)) ∧ Below w.heap.size w wr) (fun _ _ i _ => 4 - (intOf i).toNat)
  case atStart => exact ⟨0, by omega, rfl, by simp, by simpa [le] using hown2, hb3⟩
  case round =>
    clear hown2 hb3 hb2 hb1
    obtain ⟨k, hk, rfl, rfl, hown, hbl⟩ := hrel
    by_cases hlt : k < 4
    · have HP := Lib.hid (show bs (zs ++ le (k + 1) sm) = bs (zs ++ le k sm) ++ [.int .u8 ((sm : Int) / 2 ^ (8 * k) % 256)] by
        rw [le_snoc, ← List.append_assoc, bs_append _ [_]]; rfl)
      have HN := Lib.hid (show (sm : Int) / 2 ^ (8 * (k + 1)) = (sm : Int) / 2 ^ (8 * k) / 256 by
        rw [pow8_succ, Int.mul_comm, Int.ediv_ediv_of_nonneg (Int.le_of_lt (pow8_pos _))])
      have hy : 0 ≤ (sm : Int) / 2 ^ (8 * k) := Int.ediv_nonneg (by omega) (Int.le_of_lt (pow8_pos _))
      have hy2 : (sm : Int) / 2 ^ (8 * k) < 4294967296 := Int.lt_of_le_of_lt (Int.ediv_le_self _ (by omega)) (by omega)
      generalize (sm : Int) / 2 ^ (8 * k) = y at *
      go_wp2_with (at_builtin; go_loud (refine wpList_append_one _ rfl _ _ _ rfl w.heap.size 5 _ 1 elem8 u3 (len + k) _ rfl _ rfl hown rfl (by simp only [maxLen]; omega) (by omega) hbl.size ?_); intro v1 w1 hown1 hg1)
      go_roundw
      case rel => exact ⟨k + 1, by omega, by go_num, by rw [HN.out], by rw [HP.out]; exact hown1, hbl.grown hg1 hbl.size fun g hg => (hown.lt g hg).1⟩
      case measure => simp [intOf]; omega
    · obtain rfl : k = 4 := by omega
      rw [← HS.out] at hown
      obtain ⟨A', c', hv⟩ := own_slice hown
      rw [hv] at hown ⊢
      clear hv
      go_wp2
      go_ret
      exact ⟨A', c', rfl, hown, hbl⟩

theorem conv8 (w : World) (C : Array Value) (n c : Nat) : (convert 30 30 (.slice (some ⟨w.heap.size, 0, none⟩) n c)).run Try.prog (w.alloc (.cells C 5)) = .ok (.slice (some ⟨w.heap.size, 0, none⟩) n c) (w.alloc (.cells C 5 (C.size, C.size + 1))) :=
  Lib.run_convert_bytes_const w _ _ _ n c Try.underlying30 Try.underlying5
theorem lit_own {w : World} (zs : List Int) (n : Nat) (hn : zs.length = n) (hm : n ≤ 65536) : (w.alloc (.cells (bs zs).toArray 5)).ownsRow w.heap.size 5 1 (.slice (some ⟨w.heap.size, 0, none⟩) n n) n (bs zs) := by
  have h := World.ownsRow_lit (base := w.heap.size) (e := 5) (size := 1) w (bs zs).toArray n (Nat.le_refl _) (by unfold maxLen; omega) (by simp [bs_length, hn])
  exact h
theorem sum_digits : Crc.sum [49, 50, 51, 52, 53, 54, 55, 56, 57] = 3421780262 := by decide +kernel
theorem right_x : rightB (sealed [120]) = true := by decide +kernel
theorem right_3 : rightB [1, 2, 3] = false := by decide +kernel

end Go.Proofs.Ytoehflalpidhfaa

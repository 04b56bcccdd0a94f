/-
  The walks of the laws CrcSums, CrcSeals, CrcMore.
-/
import Derived.Test.YtapnjinkadinbaaCrcF
namespace Go.Proofs.Ytapnjinkadinbaa
open Go.RowKit Word Crc
set_option linter.unusedVariables false

theorem law_sums (A : Option Addr) (len cap : Nat) (zs : List Int) (w : World) (hlen : zs.length = len) (hl : len ≤ maxLen) (hb : octets zs) (hr : Rd w w.heap.size A (bs zs)) :
    Calls Try.prog 3 #[.slice A len cap] w fun e w' => e = .returned (.bool true) ∧ Below w.heap.size w w' := by
  have HL := Lib.hid hl
  unfold maxLen at hl
  by_cases hbig : 500 < len
  · have hd : (500 : Int) < len := by omega
    go_enter Try.func3, Try.ntmps3
    go_wp2_with fail
    refine (awake2_any _).mono ?_
    rintro e w1 ⟨rfl, hb1⟩
    go_wp2
    go_ret
    exact ⟨rfl, hb1⟩
  · have hd : ¬ (500 : Int) < len := by omega
    have HE := Lib.hid hlen
    clear hlen
    go_enter Try.func3, Try.ntmps3
    go_wp2_with fail
    refine (awake2_any _).mono ?_
    rintro e w1 ⟨rfl, hb1⟩
    have hr1 := (hr.below hb1).more hb1.size
    go_wp2_with fail
    refine (sum_any A len cap zs w1 HL.out HE.out hb _ hr1).mono ?_
    rintro e w2 ⟨rfl, rfl⟩
    go_wp2_with fail
    refine (rsum_any A len cap zs w1 (by omega) HE.out hb hr1).mono ?_
    rintro e w2 ⟨rfl, hb2⟩
    have hq : (((Crc.sum zs : Nat) : Int) == ((Crc.sum zs : Nat) : Int)) = true := beq_self_eq_true _
    go_wp2
    go_ret
    exact ⟨rfl, hb1.trans (hb2.mono hb1.size)⟩

theorem law_more (A A' : Option Addr) (len cap len' cap' : Nat) (xs ys : List Int) (w : World) (hlen : xs.length = len) (hl : len ≤ maxLen) (hb : octets xs) (hr : Rd w w.heap.size A (bs xs))
    (hlen' : ys.length = len') (hl' : len' ≤ maxLen) (hb' : octets ys) (hr' : Rd w w.heap.size A' (bs ys)) :
    Calls Try.prog 5 #[.slice A len cap, .slice A' len' cap'] w fun e w' => e = .returned (.bool true) ∧ Below w.heap.size w w' := by
  have HL := Lib.hid hl
  have HL' := Lib.hid hl'
  unfold maxLen at hl hl'
  by_cases hbig : 500 < len
  · have hd : (500 : Int) < len := by omega
    go_enter Try.func5, Try.ntmps5
    go_wp2_with fail
    refine (awake2_any _).mono ?_
    rintro e w1 ⟨rfl, hb1⟩
    go_wp2_with fail
    refine (awake2_any _).mono ?_
    rintro e w2 ⟨rfl, hb2⟩
    go_wp2
    go_ret
    exact ⟨rfl, hb1.trans (hb2.mono hb1.size)⟩
  · have hd : ¬ (500 : Int) < len := by omega
    by_cases hbig' : 500 < len'
    · have hd' : (500 : Int) < len' := by omega
      go_enter Try.func5, Try.ntmps5
      go_wp2_with fail
      refine (awake2_any _).mono ?_
      rintro e w1 ⟨rfl, hb1⟩
      go_wp2_with fail
      refine (awake2_any _).mono ?_
      rintro e w2 ⟨rfl, hb2⟩
      go_wp2
      go_ret
      exact ⟨rfl, hb1.trans (hb2.mono hb1.size)⟩
    · have hd' : ¬ (500 : Int) < len' := by omega
      have HE := Lib.hid hlen
      have HE' := Lib.hid hlen'
      have HS := Lib.hid (bs_length xs)
      have HS' := Lib.hid (bs_length ys)
      clear hlen hlen'
      go_enter Try.func5, Try.ntmps5
      go_wp2_with fail
      refine (awake2_any _).mono ?_
      rintro e w1 ⟨rfl, hb1⟩
      have hr1 := (hr.below hb1).more hb1.size
      have hr1' := (hr'.below hb1).more hb1.size
      clear hr hr'
      go_wp2_with (first
        | (at_builtin; refine wpList_append_copy _ rfl _ _ _ rfl 5 _ 1 1 elem8 rfl A len cap rfl (bs xs) (by rw [HS.out, HE.out]; omega) hr1 (bs_one xs) HL.out (by omega) ?_; intro A2 c2 w2 hown hb2)
        | (at_builtin; refine wpList_append_rd _ rfl _ _ _ rfl w1.heap.size 5 _ 1 1 elem8 _ len (bs xs) rfl hown w1.heap.size A' len' cap' (bs ys) rfl (by rw [HS'.out, HE'.out]; omega) (hr1'.below hb2) (bs_one ys) (by unfold maxLen; omega) (by omega) hb2.size ?_; intro v3 w3 hown3 hg3 hat3))
      have hb3 : Below w1.heap.size w1 w3 := hb2.grown hg3 hb2.size fun k hk => (hown.lt k hk).1
      obtain ⟨A3, c3, rfl⟩ := own_slice hown3
      rw [← bs_append] at hown3
      clear hown hg3 hat3 hb2
      go_wp2_with fail
      refine (sum_any A len cap xs w3 HL.out HE.out hb _ (hr1.below hb3)).mono ?_
      rintro e w4 ⟨rfl, rfl⟩
      have hs1 := sum_lt hb
      go_wp2_with fail
      refine (more_any _ A' len' cap' ys w3 hs1 HL'.out HE'.out hb' _ (hr1'.below hb3)).mono ?_
      rintro e w4 ⟨rfl, rfl⟩
      rw [more_sum]
      go_wp2_with fail
      refine (sum_any A3 (len + len') c3 (xs ++ ys) w3 (by unfold maxLen; omega) (by rw [List.length_append, HE.out, HE'.out]) (fun z hz => (List.mem_append.1 hz).elim (hb z) (hb' z)) _ (Rd.own hown3)).mono ?_
      rintro e w4 ⟨rfl, rfl⟩
      have hq : (((Crc.sum (xs ++ ys) : Nat) : Int) == ((Crc.sum (xs ++ ys) : Nat) : Int)) = true := beq_self_eq_true _
      generalize Crc.sum (xs ++ ys) = s1 at *
      go_wp2_with fail
      refine (sum_any A len cap xs w3 HL.out HE.out hb _ (hr1.below hb3)).mono ?_
      rintro e w4 ⟨rfl, rfl⟩
      go_wp2_with fail
      refine (more_any _ none 0 0 [] w3 hs1 (by decide) rfl (by simp [octets]) 0 Rd.empty).mono ?_
      rintro e w4 ⟨rfl, rfl⟩
      rw [more_nil]
      go_wp2_with fail
      refine (sum_any A len cap xs w3 HL.out HE.out hb _ (hr1.below hb3)).mono ?_
      rintro e w4 ⟨rfl, rfl⟩
      have hq2 : (((Crc.sum xs : Nat) : Int) == ((Crc.sum xs : Nat) : Int)) = true := beq_self_eq_true _
      generalize Crc.sum xs = s2 at *
      go_wp2
      go_ret
      exact ⟨rfl, hb1.trans (hb3.mono hb1.size)⟩
end Go.Proofs.Ytapnjinkadinbaa

/-
  The walks of the laws WordGets, WordCuts.
-/
import Derived.Test.YtkcackegjhcegaaWordE
namespace Go.Proofs.Ytkcackegjhcegaa
open Go.RowKit Word

theorem law_gets (A : Option Addr) (len cap : Nat) (zs : List Int) (at_ n : Int) (w : World) (hlen : zs.length = len) (hl : len ≤ maxLen) (hb : octets zs) (hr : Rd w w.heap.size A (bs zs)) :
    Calls Try.prog 4 #[.slice A len cap, .int .i64 at_, .int .i64 n] w fun e w' => e = .returned (.bool true) ∧ Below w.heap.size w w' := by
  by_cases hbig : 1000 < len
  · unfold maxLen at hl
    have hd : (1000 : Int) < len := by omega
    go_enter Try.func4, Try.ntmps4
    go_wp2_with fail
    refine (awake_any _).mono ?_
    rintro e w1 ⟨rfl, hb1⟩
    go_wp2_with fail
    refine (awake_any _).mono ?_
    rintro e w2 ⟨rfl, hb2⟩
    go_wp2
    go_ret
    exact ⟨rfl, hb1.trans (hb2.mono hb1.size)⟩
  · have hd : ¬ (1000 : Int) < len := by omega
    have HL := Lib.hid hlen
    clear hlen
    go_enter Try.func4, Try.ntmps4
    go_wp2_with fail
    refine (awake_any _).mono ?_
    rintro e w1 ⟨rfl, hb1⟩
    have hr1 := hr.below hb1
    by_cases hf : 1 ≤ n ∧ n ≤ 8 ∧ 0 ≤ at_ ∧ at_ + n ≤ len
    · obtain ⟨f1, f2, f3, f4⟩ := hf
      obtain ⟨p, rfl⟩ := Int.eq_ofNat_of_zero_le f3
      obtain ⟨m, rfl⟩ := Int.eq_ofNat_of_zero_le (show 0 ≤ n by omega)
      go_wp2_with fail
      refine (get_yes A len cap p m w1 hl (by omega) (by omega) (by omega) zs hb HL.out _ hr1).mono ?_
      rintro e w2 ⟨rfl, rfl⟩
      go_wp2_with fail
      refine (fits_yes A len cap p m w1 hl f1 f2 f3 f4).mono ?_
      rintro e w2 ⟨rfl, rfl⟩
      go_wp2_with fail
      refine (rget_any A len cap p m w1 hl (by omega) (by omega) (by omega) zs hb HL.out _ hr1).mono ?_
      rintro e w2 ⟨rfl, rfl⟩
      have hq : (Word.get zs p m == Word.get zs p m) = true := beq_self_eq_true _
      go_wp2
      go_ret
      exact ⟨rfl, hb1⟩
    · have HF := Lib.hid hf
      clear hf
      go_wp2_with fail
      refine (get_no A len cap at_ n w1 hl HF.out).mono ?_
      rintro e w2 ⟨rfl, rfl⟩
      go_wp2_with fail
      refine (fits_no A len cap at_ n w1 hl HF.out).mono ?_
      rintro e w2 ⟨rfl, rfl⟩
      go_wp2
      go_ret
      exact ⟨rfl, hb1⟩

theorem law_cuts (x n : Int) (w : World) (hx : 0 ≤ x ∧ x < 18446744073709551616) :
    Calls Try.prog 5 #[.int .u64 x, .int .i64 n] w fun e w' => e = .returned (.bool true) ∧ Below w.heap.size w w' := by
  have h1 := Lib.hid fun w => cut_any x n w hx
  have h2 := Lib.hid fun w => rcut_any x n w hx
  clear hx
  go_enter Try.func5, Try.ntmps5
  go_wp2_with fail
  refine (awake_any _).mono ?_
  rintro e w1 ⟨rfl, hb1⟩
  go_wp2_with fail
  refine (h1.out _).mono ?_
  rintro e w2 ⟨rfl, rfl⟩
  go_wp2_with fail
  refine (h2.out _).mono ?_
  rintro e w2 ⟨rfl, rfl⟩
  have hq : (cut x n == cut x n) = true := beq_self_eq_true _
  go_wp2
  go_ret
  exact ⟨rfl, hb1⟩
end Go.Proofs.Ytkcackegjhcegaa

/-
  The walks of the laws WordBack, WordOver, WordParts.
-/
import Derived.Test.YtkcackegjhcegaaWordE
namespace Go.Proofs.Ytkcackegjhcegaa
open Go.RowKit Word

theorem cut_mod (x : Int) (m : Nat) (h1 : 1 ≤ m) (h8 : m ≤ 8) (hx : 0 ≤ x ∧ x < 18446744073709551616) : cut x m = x % 2 ^ (8 * m) := by
  unfold cut
  rw [if_neg (by omega)]
  by_cases h : 8 ≤ (m : Int)
  · rw [if_pos h]
    obtain rfl : m = 8 := by omega
    rw [show (2 : Int) ^ (8 * 8) = 18446744073709551616 from by decide]
    omega
  · rw [if_neg h, Int.toNat_natCast]

theorem mod_u64 (x : Int) (m : Nat) (hx : 0 ≤ x ∧ x < 18446744073709551616) : 0 ≤ x % 2 ^ (8 * m) ∧ x % 2 ^ (8 * m) < 18446744073709551616 := by
  have h := pow8_pos m
  have h1 := Int.emod_nonneg x (show (2 : Int) ^ (8 * m) ≠ 0 by omega)
  have h2 := Int.mul_ediv_add_emod x (2 ^ (8 * m))
  have h3 := Int.mul_nonneg (Int.le_of_lt h) (Int.ediv_nonneg hx.1 (Int.le_of_lt h))
  exact ⟨h1, by omega⟩

theorem get_u64 (zs : List Int) (p m : Nat) (h8 : m ≤ 8) (hb : octets zs) : 0 ≤ Word.get zs p m ∧ Word.get zs p m < 18446744073709551616 := by
  have h1 := get_bounds zs p m hb
  have h2 := pow8_le m 8 h8
  have h3 : (2 : Int) ^ (8 * 8) = 18446744073709551616 := by decide
  exact ⟨h1.1, by omega⟩

theorem law_back (A : Option Addr) (len cap : Nat) (zs : List Int) (at_ n x : Int) (w : World) (hlen : zs.length = len) (hl : len ≤ maxLen) (hb : octets zs) (hr : Rd w w.heap.size A (bs zs))
    (hx : 0 ≤ x ∧ x < 18446744073709551616) :
    Calls Try.prog 6 #[.slice A len cap, .int .i64 at_, .int .i64 n, .int .u64 x] w fun e w' => e = .returned (.bool true) ∧ Below w.heap.size w w' := by
  by_cases hbig : 1000 < len
  · unfold maxLen at hl
    have hd : (1000 : Int) < len := by omega
    go_enter Try.func6, Try.ntmps6
    go_wp2_with fail
    refine (awake_any _).mono ?_
    rintro e w1 ⟨rfl, hb1⟩
    go_wp2_with fail
    refine (awake_any _).mono ?_
    rintro e w2 ⟨rfl, hb2⟩
    go_wp2
    go_ret
    exact ⟨rfl, hb1.trans (hb2.mono hb1.size)⟩
  · have hd : ¬ (1000 : Int) < len := by omega
    by_cases hf : 1 ≤ n ∧ n ≤ 8 ∧ 0 ≤ at_ ∧ at_ + n ≤ len
    · obtain ⟨f1, f2, f3, f4⟩ := hf
      obtain ⟨p, rfl⟩ := Int.eq_ofNat_of_zero_le f3
      obtain ⟨m, rfl⟩ := Int.eq_ofNat_of_zero_le (show 0 ≤ n by omega)
      have HL := Lib.hid hlen
      have hs := bs_length zs
      rw [hlen] at hs
      have HS := Lib.hid hs
      clear hlen hs
      go_enter Try.func6, Try.ntmps6
      go_wp2_with fail
      refine (awake_any _).mono ?_
      rintro e w1 ⟨rfl, hb1⟩
      have hr1 := (hr.below hb1).more hb1.size
      go_wp2_with fail
      refine (fits_yes A len cap p m w1 hl f1 f2 f3 f4).mono ?_
      rintro e w2 ⟨rfl, rfl⟩
      go_wp2_with (at_builtin; refine wpList_append_copy _ rfl _ _ _ rfl 5 _ 1 1 elem8 rfl A len cap rfl (bs zs) (by rw [HS.out]; omega) hr1 (bs_one zs) hl (by omega) ?_; intro A2 c2 w2 hown hb2)
      have hr2 := (hr1.below hb2).more hb2.size
      obtain ⟨g, cap2, hv, hgb, hgl⟩ := hown.form (by omega)
      obtain ⟨rfl, rfl⟩ : A2 = some ⟨g, 0, none⟩ ∧ c2 = cap2 := by injection hv with a b c; exact ⟨a, c⟩
      clear hv
      refine (get_yes (some ⟨g, 0, none⟩) len c2 p m w2 hl (by omega) (by omega) (by omega) zs hb HL.out _ (Rd.own hown)).mono ?_
      rintro e w3 ⟨rfl, rfl⟩
      go_wp2_with fail
      refine (put_yes w1.heap.size g len c2 p m (Word.get zs p m) w2 hl (by omega) (by omega) (by omega) zs hown).mono ?_
      rintro e w3 ⟨rfl, hown3, hg3⟩
      rw [put_get zs p m (by rw [HL.out]; omega) hb] at hown3
      have hb3 : Below w1.heap.size w2 w3 := (Below.refl _ _).grown hg3 (by omega) (fun k hk => by injection hk; omega)
      have hr3 := ((hr1.below hb2).below hb3).more (Nat.le_trans hb2.size hb3.size)
      go_wp2_with fail
      refine (same_any A (some ⟨g, 0, none⟩) len cap len c2 w3 hl hl zs zs HL.out HL.out w3.heap.size hr3 (Rd.own hown3)).mono ?_
      rintro e w4 ⟨rfl, q, rfl⟩
      rw [beq_self_eq_true]
      go_wp2_with fail
      have hown4 : (w3.drewN q).ownsRow w1.heap.size 5 1 (.slice (some ⟨g, 0, none⟩) len c2) len (bs zs) := hown3
      refine (put_yes w1.heap.size g len c2 p m x (w3.drewN q) hl (by omega) (by omega) (by omega) zs hown4).mono ?_
      rintro e w5 ⟨rfl, hown5, hg5⟩
      have hb5 : Below w1.heap.size (w3.drewN q) w5 := (Below.refl _ _).grown hg5 (Nat.le_trans hb2.size hb3.size) (fun k hk => by injection hk; omega)
      have hlp : (put zs p m x).length = len := by rw [put_length _ _ _ _ (by rw [HL.out]; omega), HL.out]
      have HP := Lib.hid hlp
      clear hlp
      go_wp2_with fail
      refine (get_yes (some ⟨g, 0, none⟩) len c2 p m w5 hl (by omega) (by omega) (by omega) (put zs p m x) (put_bytes _ _ _ _ hb) HP.out _ (Rd.own hown5)).mono ?_
      rintro e w6 ⟨rfl, rfl⟩
      rw [get_put _ _ _ _ (by rw [HL.out]; omega)]
      go_wp2_with fail
      refine (cut_any x m w5 hx).mono ?_
      rintro e w6 ⟨rfl, rfl⟩
      rw [cut_mod x m (by omega) (by omega) hx]
      have HM := Lib.hid (mod_u64 x m hx)
      have HC := Lib.hid (cut_mod (x % 2 ^ (8 * m)) m (by omega) (by omega) HM.out)
      rw [Int.emod_emod] at HC
      generalize x % 2 ^ (8 * m) = y at *
      have hq : (y == y) = true := beq_self_eq_true _
      go_wp2_with fail
      refine (cut_any y m w5 HM.out).mono ?_
      rintro e w6 ⟨rfl, rfl⟩
      rw [HC.out]
      go_wp2
      go_ret
      exact ⟨rfl, hb1.trans ((hb2.trans ((below_draws hb3 q).trans hb5)).mono hb1.size)⟩
    · have HF := Lib.hid hf
      clear hf
      go_enter Try.func6, Try.ntmps6
      go_wp2_with fail
      refine (awake_any _).mono ?_
      rintro e w1 ⟨rfl, hb1⟩
      go_wp2_with fail
      refine (fits_no A len cap at_ n w1 hl HF.out).mono ?_
      rintro e w2 ⟨rfl, rfl⟩
      go_wp2_with fail
      refine (awake_any _).mono ?_
      rintro e w2 ⟨rfl, hb2⟩
      go_wp2
      go_ret
      exact ⟨rfl, hb1.trans (hb2.mono hb1.size)⟩
end Go.Proofs.Ytkcackegjhcegaa

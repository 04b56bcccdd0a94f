/-
  The walk of the law WordPuts.
-/
import Derived.Test.YtkcackegjhcegaaWordE
namespace Go.Proofs.Ytkcackegjhcegaa
open Go.RowKit Word

theorem law_puts (A : Option Addr) (len cap : Nat) (zs : List Int) (at_ n x : Int) (w : World) (hlen : zs.length = len) (hl : len ≤ maxLen) (hr : Rd w w.heap.size A (bs zs))
    (hx : 0 ≤ x ∧ x < 18446744073709551616) :
    Calls Try.prog 3 #[.slice A len cap, .int .i64 at_, .int .i64 n, .int .u64 x] w fun e w' => e = .returned (.bool true) ∧ Below w.heap.size w w' := by
  by_cases hbig : 1000 < len
  · unfold maxLen at hl
    have hd : (1000 : Int) < len := by omega
    go_enter Try.func3, Try.ntmps3
    go_wp2_with fail
    refine (awake_any _).mono ?_
    rintro e w1 ⟨rfl, hb1⟩
    go_wp2_with fail
    refine (awake_any _).mono ?_
    rintro e w2 ⟨rfl, hb2⟩
    go_wp2
    go_ret
    exact ⟨rfl, hb1.trans (hb2.mono hb1.size)⟩
  · have hd : ¬ (1000 : Int) < len := by omega
    have HL := Lib.hid hlen
    have hs := bs_length zs
    rw [hlen] at hs
    have HS := Lib.hid hs
    clear hlen hs
    go_enter Try.func3, Try.ntmps3
    go_wp2_with fail
    refine (awake_any _).mono ?_
    rintro e w1 ⟨rfl, hb1⟩
    have hr1 := (hr.below hb1).more hb1.size
    go_wp2_with (at_builtin; refine wpList_append_copy _ rfl _ _ _ rfl 5 _ 1 1 elem8 rfl A len cap rfl (bs zs) (by rw [HS.out]; omega) hr1 (bs_one zs) hl (by omega) ?_; intro A2 c2 w2 hown hb2)
    have hr2 := hr1.below hb2
    have hr2' := Rd.own hown
    by_cases hf : 1 ≤ n ∧ n ≤ 8 ∧ 0 ≤ at_ ∧ at_ + n ≤ len
    · obtain ⟨f1, f2, f3, f4⟩ := hf
      obtain ⟨p, rfl⟩ := Int.eq_ofNat_of_zero_le f3
      obtain ⟨m, rfl⟩ := Int.eq_ofNat_of_zero_le (show 0 ≤ n by omega)
      obtain ⟨g, cap2, hv, hgb, hgl⟩ := hown.form (by omega)
      obtain ⟨rfl, rfl⟩ : A2 = some ⟨g, 0, none⟩ ∧ c2 = cap2 := by injection hv with a b c; exact ⟨a, c⟩
      refine (put_yes w1.heap.size g len c2 p m x w2 hl (by omega) (by omega) (by omega) zs hown).mono ?_
      rintro e w3 ⟨rfl, hown3, hg3⟩
      have hb3 : Below w1.heap.size w2 w3 := (Below.refl _ _).grown hg3 (by omega) (fun k hk => by injection hk; omega)
      go_wp2_with fail
      refine (fits_yes A len cap p m w3 hl f1 f2 f3 f4).mono ?_
      rintro e w4 ⟨rfl, rfl⟩
      go_wp2_with fail
      refine (rput_any A len cap p m x w3 (by omega) (by omega) (by omega) zs HL.out hx ((hr2.below hb3).more (Nat.le_trans hb2.size hb3.size))).mono ?_
      rintro e w4 ⟨A4, c4, rfl, hown4, hb4⟩
      go_wp2_with fail
      have hlp : (put zs p m x).length = len := by rw [put_length _ _ _ _ (by rw [HL.out]; omega), HL.out]
      refine (same_any (some ⟨g, 0, none⟩) A4 len c2 len c4 w4 hl hl _ _ hlp hlp w4.heap.size (((Rd.own hown3).below hb4).more hb4.size) (Rd.own hown4)).mono ?_
      rintro e w5 ⟨rfl, q, rfl⟩
      rw [beq_self_eq_true]
      clear hlp
      go_wp2
      go_ret
      exact ⟨rfl, (hb1.trans ((hb2.trans hb3).mono hb1.size)).trans ((below_draws hb4 q).mono (Nat.le_trans hb1.size (Nat.le_trans hb2.size hb3.size)))⟩
    · refine (put_no A2 len c2 at_ n x w2 hl hf).mono ?_
      rintro e w3 ⟨rfl, rfl⟩
      go_wp2_with fail
      refine (fits_no A len cap at_ n w2 hl hf).mono ?_
      rintro e w3 ⟨rfl, rfl⟩
      clear hf
      go_wp2_with fail
      refine (same_any A A2 len cap len c2 w2 hl hl zs zs HL.out HL.out w2.heap.size (hr2.more hb2.size) hr2').mono ?_
      rintro e w3 ⟨rfl, q, rfl⟩
      rw [beq_self_eq_true]
      go_wp2
      go_ret
      exact ⟨rfl, hb1.trans ((below_draws hb2 q).mono hb1.size)⟩
end Go.Proofs.Ytkcackegjhcegaa

/-
  The walks of the laws WordOver, WordParts.
-/
import Derived.Test.YtkcackegjhcegaaWordBack
set_option linter.unusedVariables false
namespace Go.Proofs.Ytkcackegjhcegaa
open Go.RowKit Word

theorem law_over (A : Option Addr) (len cap : Nat) (zs : List Int) (n m x y : Int) (w : World) (hlen : zs.length = len) (hl : len ≤ maxLen) (hb : octets zs) (hr : Rd w w.heap.size A (bs zs))
    (hn : 0 ≤ n ∧ n ≤ 255) (hm : 0 ≤ m ∧ m ≤ 255) (hx : 0 ≤ x ∧ x < 18446744073709551616) (hy : 0 ≤ y ∧ y < 18446744073709551616) :
    Calls Try.prog 8 #[.slice A len cap, .int .u8 n, .int .u8 m, .int .u64 x, .int .u64 y] w fun e w' => e = .returned (.bool true) ∧ Below w.heap.size w w' := by
  obtain ⟨j, hj⟩ : ∃ j : Nat, (1 + n % 8) = (j : Int) := Int.eq_ofNat_of_zero_le (by omega)
  obtain ⟨k, hk⟩ : ∃ k : Nat, (1 + m % 8) = (k : Int) := Int.eq_ofNat_of_zero_le (by omega)
  have hj1 : 1 ≤ j := by omega
  have hj8 : j ≤ 8 := by omega
  have hk1 : 1 ≤ k := by omega
  have hk8 : k ≤ 8 := by omega
  by_cases hbig : 1000 < len
  · unfold maxLen at hl
    have hd : (1000 : Int) < len := by omega
    go_enter Try.func8, Try.ntmps8
    go_wp2_with fail
    refine (awake_any _).mono ?_
    rintro e w1 ⟨rfl, hb1⟩
    go_wp2_with fail
    refine (awake_any _).mono ?_
    rintro e w2 ⟨rfl, hb2⟩
    go_wp2
    go_ret
    exact ⟨rfl, hb1.trans (hb2.mono hb1.size)⟩
  · have hd : ¬ (1000 : Int) < len := by omega
    have HL := Lib.hid hlen
    have hs := bs_length zs
    rw [hlen] at hs
    have HS := Lib.hid hs
    clear hlen hs
    go_enter Try.func8, Try.ntmps8
    go_wp2_with fail
    refine (awake_any _).mono ?_
    rintro e w1 ⟨rfl, hb1⟩
    have hr1 := (hr.below hb1).more hb1.size
    go_wp2_with fail
    by_cases f1 : j ≤ len
    · refine (fits_yes A len cap 0 j w1 hl (by omega) (by omega) (by omega) (by omega)).mono ?_
      rintro e w2 ⟨rfl, rfl⟩
      go_wp2_with fail
      by_cases f2 : j + k ≤ len
      · refine (fits_yes A len cap j k w1 hl (by omega) (by omega) (by omega) (by omega)).mono ?_
        rintro e w2 ⟨rfl, rfl⟩
        go_wp2_with (first
          | (at_builtin; refine wpList_append_copy _ rfl _ _ _ rfl 5 _ 1 1 elem8 rfl A len cap rfl (bs zs) (by rw [HS.out]; omega) hr2 (bs_one zs) hl (by omega) ?_; intro A3 c3 w3 hd3 hb3)
          | (at_builtin; refine wpList_append_copy _ rfl _ _ _ rfl 5 _ 1 1 elem8 rfl A len cap rfl (bs zs) (by rw [HS.out]; omega) hr1 (bs_one zs) hl (by omega) ?_; intro A2 c2 w2 hc2 hb2; have hr2 := (hr1.below hb2).more hb2.size))
        obtain ⟨g, rfl, hg1, hg2⟩ := own_at hc2 (by omega)
        obtain ⟨g', rfl, hg3, hg4⟩ := own_at hd3 (by omega)
        have hc3 := own_below hc2 hb3
        clear hc2
        have hl1 : (put zs 0 j x).length = len := by rw [put_length _ _ _ _ (by rw [HL.out]; omega), HL.out]
        have hl2 : (put zs j k y).length = len := by rw [put_length _ _ _ _ (by rw [HL.out]; omega), HL.out]
        have hl3 : (put (put zs 0 j x) j k y).length = len := by rw [put_length _ _ _ _ (by rw [hl1]; omega), hl1]
        have HL1 := Lib.hid hl1
        have HL2 := Lib.hid hl2
        have HL3 := Lib.hid hl3
        clear hl1 hl2 hl3
        have hB3 : Below w1.heap.size w1 w3 := hb2.trans (hb3.mono hb2.size)
        refine (put_yes w1.heap.size g len c2 0 j x w3 hl (by omega) (by omega) (by omega) zs hc3).mono ?_
        rintro e w4 ⟨rfl, hc4, hg⟩
        have hB4 := below_stored hB3 hg hB3.size hg1
        have hd4 := own_grown hd3 hg (by omega)
        clear hc3 hd3 hg
        go_wp2_with fail
        refine (put_yes w1.heap.size g len c2 j k y w4 hl (by omega) (by omega) (by omega) _ hc4).mono ?_
        rintro e w5 ⟨rfl, hc5, hg⟩
        have hB5 := below_stored hB4 hg hB4.size hg1
        have hd5 := own_grown hd4 hg (by omega)
        clear hc4 hd4 hg
        go_wp2_with fail
        refine (put_yes w2.heap.size g' len c3 j k y w5 hl (by omega) (by omega) (by omega) _ hd5).mono ?_
        rintro e w6 ⟨rfl, hd6, hg⟩
        have hB6 := below_stored hB5 hg hB5.size (by have := hb2.size; omega)
        have hc6 := own_grown hc5 hg (by omega)
        clear hc5 hd5 hg
        go_wp2_with fail
        refine (put_yes w2.heap.size g' len c3 0 j x w6 hl (by omega) (by omega) (by omega) _ hd6).mono ?_
        rintro e w7 ⟨rfl, hd7, hg⟩
        have hB7 := below_stored hB6 hg hB6.size (by have := hb2.size; omega)
        have hc7 := own_grown hc6 hg (by omega)
        clear hc6 hd6 hg
        rw [← put_swap zs 0 j j k x y (by omega) (by rw [HL.out]; omega)] at hd7
        have HO := Lib.hid (put_bytes (put zs 0 j x) j k y (put_bytes zs 0 j x hb))
        have HG1 := Lib.hid (show Word.get (put (put zs 0 j x) j k y) 0 j = cut x j by
          rw [get_put_other _ _ _ _ _ _ (by rw [HL1.out]; omega) (by omega), get_put _ _ _ _ (by rw [HL.out]; omega), cut_mod x j hj1 hj8 hx])
        have HG2 := Lib.hid (show Word.get (put (put zs 0 j x) j k y) j k = cut y k by
          rw [get_put _ _ _ _ (by rw [HL1.out]; omega), cut_mod y k hk1 hk8 hy])
        generalize put (put zs 0 j x) j k y = ps at *
        go_wp2_with fail
        refine (get_yes (some ⟨g, 0, none⟩) len c2 0 j w7 hl (by omega) (by omega) (by omega) ps HO.out HL3.out _ (Rd.own hc7)).mono ?_
        rintro e w8 ⟨rfl, rfl⟩
        go_wp2_with fail
        refine (get_yes (some ⟨g, 0, none⟩) len c2 j k w7 hl (by omega) (by omega) (by omega) ps HO.out HL3.out _ (Rd.own hc7)).mono ?_
        rintro e w8 ⟨rfl, rfl⟩
        rw [HG1.out, HG2.out]
        go_wp2_with fail
        refine (same_any (some ⟨g, 0, none⟩) (some ⟨g', 0, none⟩) len c2 len c3 w7 hl hl ps ps HL3.out HL3.out w7.heap.size (Rd.own hc7) (Rd.own hd7)).mono ?_
        rintro e w8 ⟨rfl, q, rfl⟩
        rw [beq_self_eq_true]
        go_wp2_with fail
        refine (cut_any x j _ hx).mono ?_
        rintro e w8 ⟨rfl, rfl⟩
        have hq : (cut x j == cut x j) = true := beq_self_eq_true _
        have hq2 : (cut y k == cut y k) = true := beq_self_eq_true _
        go_wp2_with fail
        refine (cut_any y k _ hy).mono ?_
        rintro e w8 ⟨rfl, rfl⟩
        go_wp2
        go_ret
        exact ⟨rfl, hb1.trans ((below_draws hB7 q).mono hb1.size)⟩
      · refine (fits_no A len cap j k w1 hl (by omega)).mono ?_
        rintro e w2 ⟨rfl, rfl⟩
        go_wp2_with fail
        refine (awake_any _).mono ?_
        rintro e w2 ⟨rfl, hb2⟩
        go_wp2
        go_ret
        exact ⟨rfl, hb1.trans (hb2.mono hb1.size)⟩
    · refine (fits_no A len cap 0 j w1 hl (by omega)).mono ?_
      rintro e w2 ⟨rfl, rfl⟩
      go_wp2_with fail
      refine (awake_any _).mono ?_
      rintro e w2 ⟨rfl, hb2⟩
      go_wp2
      go_ret
      exact ⟨rfl, hb1.trans (hb2.mono hb1.size)⟩

theorem law_parts (x n : Int) (w : World) (hn : 0 ≤ n ∧ n ≤ 255) (hx : 0 ≤ x ∧ x < 18446744073709551616) :
    Calls Try.prog 7 #[.int .u64 x, .int .u8 n] w fun e w' => e = .returned (.bool true) ∧ Below w.heap.size w w' := by
  obtain ⟨k, hk⟩ : ∃ k : Nat, (1 + n % 7) = (k : Int) := Int.eq_ofNat_of_zero_le (by omega)
  have hk1 : 1 ≤ k := by omega
  have hk7 : k ≤ 7 := by omega
  have hmk : ∀ w : World, (Instr.makeSlice 22 (.int .i64 8) (.int .i64 8)).run Try.prog w = .ok (.slice (some ⟨w.heap.size, 0, none⟩) 8 8) (w.alloc (.cells #[.int .u8 0, .int .u8 0, .int .u8 0, .int .u8 0, .int .u8 0, .int .u8 0, .int .u8 0, .int .u8 0] 5)) := fun _ => by kernel_rfl
  have ha0 : ((w.alloc (.cells #[.int .u8 0, .int .u8 0, .int .u8 0, .int .u8 0, .int .u8 0, .int .u8 0, .int .u8 0, .int .u8 0] 5)).alloc (.cells #[.int .u8 0, .int .u8 0, .int .u8 0, .int .u8 0, .int .u8 0, .int .u8 0, .int .u8 0, .int .u8 0] 5)).ownsRow w.heap.size 5 1 (.slice (some ⟨w.heap.size, 0, none⟩) 8 8) 8 (bs (List.replicate 8 0)) :=
    (World.ownsRow_lit w #[.int .u8 0, .int .u8 0, .int .u8 0, .int .u8 0, .int .u8 0, .int .u8 0, .int .u8 0, .int .u8 0] 8 (Nat.le_refl _) (by decide) rfl).alloc _
  have hb0 : ((w.alloc (.cells #[.int .u8 0, .int .u8 0, .int .u8 0, .int .u8 0, .int .u8 0, .int .u8 0, .int .u8 0, .int .u8 0] 5)).alloc (.cells #[.int .u8 0, .int .u8 0, .int .u8 0, .int .u8 0, .int .u8 0, .int .u8 0, .int .u8 0, .int .u8 0] 5)).ownsRow w.heap.size 5 1 (.slice (some ⟨w.heap.size + 1, 0, none⟩) 8 8) 8 (bs (List.replicate 8 0)) := by
    have h := World.ownsRow_lit (base := w.heap.size) (e := 5) (size := 1) (w.alloc (.cells #[.int .u8 0, .int .u8 0, .int .u8 0, .int .u8 0, .int .u8 0, .int .u8 0, .int .u8 0, .int .u8 0] 5)) #[.int .u8 0, .int .u8 0, .int .u8 0, .int .u8 0, .int .u8 0, .int .u8 0, .int .u8 0, .int .u8 0] 8 (by simp) (by decide) rfl
    have h2 : (w.alloc (.cells #[.int .u8 0, .int .u8 0, .int .u8 0, .int .u8 0, .int .u8 0, .int .u8 0, .int .u8 0, .int .u8 0] 5)).heap.size = w.heap.size + 1 := by simp
    rw [h2] at h
    exact h
  have hB : Below w.heap.size w ((w.alloc (.cells #[.int .u8 0, .int .u8 0, .int .u8 0, .int .u8 0, .int .u8 0, .int .u8 0, .int .u8 0, .int .u8 0] 5)).alloc (.cells #[.int .u8 0, .int .u8 0, .int .u8 0, .int .u8 0, .int .u8 0, .int .u8 0, .int .u8 0, .int .u8 0] 5)) :=
    ((Below.refl _ _).alloc (Nat.le_refl _) _).alloc (by simp) _
  have hz : w.heap.size < ((w.alloc (.cells #[.int .u8 0, .int .u8 0, .int .u8 0, .int .u8 0, .int .u8 0, .int .u8 0, .int .u8 0, .int .u8 0] 5)).alloc (.cells #[.int .u8 0, .int .u8 0, .int .u8 0, .int .u8 0, .int .u8 0, .int .u8 0, .int .u8 0, .int .u8 0] 5)).heap.size := by simp; omega
  have HA := Lib.hid ha0
  have HB := Lib.hid hb0
  clear ha0 hb0 hz
  have hsh : 8 * (k : Int) < 64 := by omega
  go_enter Try.func7, Try.ntmps7
  go_wp2_with fail
  refine (put_yes w.heap.size w.heap.size 8 8 0 8 x _ (by decide) (by omega) (by omega) (by omega) _ HA.out).mono ?_
  rintro e w4 ⟨rfl, hc4, hg⟩
  have hB4 := below_stored hB hg hB.size (Nat.le_refl _)
  have hd4 := own_grown HB.out hg (by omega)
  clear HA HB hB hg
  rw [put_all _ _ _ (by simp)] at hc4
  go_wp2_with fail
  refine (put_yes w.heap.size (w.heap.size + 1) 8 8 0 k x w4 (by decide) (by omega) (by omega) (by omega) _ hd4).mono ?_
  rintro e w5 ⟨rfl, hd5, hg⟩
  have hB5 := below_stored hB4 hg hB4.size (by omega)
  have hc5 := own_grown hc4 hg (by omega)
  clear hc4 hd4 hB4 hg
  go_wp2_with fail
  rw [show (8 - (k : Int)) = ((8 - k : Nat) : Int) from by omega]
  refine (put_yes w.heap.size (w.heap.size + 1) 8 8 k (8 - k) (x / 2 ^ (8 * k)) w5 (by decide) (by omega) (by omega) (by omega) _ hd5).mono ?_
  rintro e w6 ⟨rfl, hd6, hg⟩
  have hB6 := below_stored hB5 hg hB5.size (by omega)
  have hc6 := own_grown hc5 hg (by omega)
  have hp : put (put (List.replicate 8 0) 0 k x) k (8 - k) (x / 2 ^ (8 * k)) = le 8 x := by
    have e1 : put (List.replicate 8 0) 0 k x = le k x ++ List.replicate (8 - k) 0 := by rw [put, Nat.zero_add, List.drop_replicate]; simp
    rw [e1, put_end _ _ _ _ _ (le_length _ _) (by simp), ← le_add, show k + (8 - k) = 8 from by omega]
  rw [hp] at hd6
  clear hc5 hd5 hB5 hg hp
  generalize hl8 : le 8 x = l8 at *
  have HL8 := Lib.hid (show l8.length = 8 by rw [← hl8, le_length])
  clear hl8
  go_wp2_with fail
  refine (awake_any _).mono ?_
  rintro e w7 ⟨rfl, hb7⟩
  have hB7 := hB6.trans (hb7.mono hB6.size)
  have hd7 := own_below hd6 hb7
  have hc7 := own_below hc6 hb7
  go_wp2_with fail
  refine (same_any (some ⟨w.heap.size, 0, none⟩) (some ⟨w.heap.size + 1, 0, none⟩) 8 8 8 8 w7 (by decide) (by decide) l8 l8 HL8.out HL8.out w7.heap.size (Rd.own hc7) (Rd.own hd7)).mono ?_
  rintro e w8 ⟨rfl, q, rfl⟩
  rw [beq_self_eq_true]
  go_wp2
  go_ret
  exact ⟨rfl, below_draws hB7 q⟩
end Go.Proofs.Ytkcackegjhcegaa

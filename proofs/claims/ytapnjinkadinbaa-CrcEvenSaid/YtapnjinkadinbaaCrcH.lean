/-
  The walk of the law CrcEven.
-/
import Derived.Test.YtapnjinkadinbaaCrcF
import Derived.Deep.RegionHeld3
namespace Go.Proofs.Ytapnjinkadinbaa
open Go.RowKit Word Crc
set_option linter.unusedVariables false

theorem tri_bits {a b c : Int} (ha : 0 ≤ a ∧ a ≤ 255) (hb : 0 ≤ b ∧ b ≤ 255) (hc : 0 ≤ c ∧ c ≤ 255) : bits .xor .u8 (bits .xor .u8 a b) c = tri a b c := by
  have h1 := Nat.xor_lt_two_pow (n := 8) (show a.toNat < 2 ^ 8 by omega) (show b.toNat < 2 ^ 8 by omega)
  rw [u8_xor a b ha.1 (by omega) hb.1 (by omega), u8_xor _ c (by omega) (by omega) hc.1 (by omega), Int.toNat_natCast]
  rfl

set_option maxRecDepth 100000 in
set_option maxHeartbeats 1000000 in
theorem law_even (A1 A2 A3 : Option Addr) (len1 cap1 len2 cap2 len3 cap3 : Nat) (xs ys zs : List Int) (w : World)
    (hx : xs.length = len1) (hl1 : len1 ≤ maxLen) (ho1 : octets xs) (hr1 : Rd w w.heap.size A1 (bs xs))
    (hy : ys.length = len2) (hl2 : len2 ≤ maxLen) (ho2 : octets ys) (hr2 : Rd w w.heap.size A2 (bs ys))
    (hz : zs.length = len3) (hl3 : len3 ≤ maxLen) (ho3 : octets zs) (hr3 : Rd w w.heap.size A3 (bs zs)) :
    Calls Try.prog 8 #[.slice A1 len1 cap1, .slice A2 len2 cap2, .slice A3 len3 cap3] w fun e w' => e = .returned (.bool true) ∧ Below w.heap.size w w' := by
  have HL1 := Lib.hid hl1
  unfold maxLen at hl1 hl2 hl3
  by_cases hgo : len1 = len2 ∧ len1 = len3 ∧ len1 ≤ 500
  · obtain ⟨rfl, rfl, hle⟩ := hgo
    have HX := Lib.hid hx
    have HY := Lib.hid hy
    have HZ := Lib.hid hz
    have HT := Lib.hid (sum_tri xs ys zs (by omega) (by omega))
    have HTL := Lib.hid ((tris_length xs ys zs (by omega) (by omega)).trans hx)
    have HTG := Lib.hid (tris_getElem? xs ys zs (by omega) (by omega))
    have hto := tris_octets xs ys zs ho1 ho2 ho3
    have hs1 := sum_lt ho1
    have hs2 := sum_lt ho2
    have hs3 := sum_lt ho3
    clear hx hy hz hl2 hl3
    generalize tris xs ys zs = ts at *
    go_enter Try.func8, Try.ntmps8
    go_wp2_with fail
    refine (awake2_any _).mono ?_
    rintro e w1 ⟨rfl, hb1⟩
    have hr1 := (hr1.below hb1).more hb1.size
    have hr2 := (hr2.below hb1).more hb1.size
    have hr3 := (hr3.below hb1).more hb1.size
    go_wp2_with fail
    go_loopw [7, 8] (fun o i wr => ∃ k : Nat, k ≤ len1 ∧ i = .int .i64 k ∧ wr.ownsRow w1.heap.size 5 1 o k (bs (ts.take k)) ∧ Below w1.heap.size w1 wr) (fun _ i _ => len1 - (intOf i).toNat)
    case atStart => exact ⟨0, by omega, rfl, by simpa [bs] using World.ownsRow_nil _ _ _ _, Below.refl _ _⟩
    case round =>
      obtain ⟨k, hk, rfl, hown, hbl⟩ := hrel
      by_cases hlt : k < len1
      · obtain ⟨ad1, rfl, hd1, hc1⟩ := (hr1.below hbl).at (bs_get (k := k) (by rw [HX.out]; omega))
        obtain ⟨ad2, rfl, hd2, hc2⟩ := (hr2.below hbl).at (bs_get (k := k) (by rw [HY.out]; omega))
        obtain ⟨ad3, rfl, hd3, hc3⟩ := (hr3.below hbl).at (bs_get (k := k) (by rw [HZ.out]; omega))
        have HP := Lib.hid (show bs (ts.take (k + 1)) = bs (ts.take k) ++ [.int .u8 (tri (xs.getD k 0) (ys.getD k 0) (zs.getD k 0))] by
          rw [List.take_add_one, HTG.out k (by rw [HX.out]; exact hlt), bs_append]; rfl)
        have HB := Lib.hid (tri_bits (octets_getD ho1 k) (octets_getD ho2 k) (octets_getD ho3 k))
        generalize xs.getD k 0 = x at *
        generalize ys.getD k 0 = y at *
        generalize zs.getD k 0 = z at *
        have hsz := hbl.size
        clear hr1 hr2 hr3
        have hk0 : (0 : Int) ≤ (k : Int) := Int.natCast_nonneg _
        have hk1 : (k : Int) < (len1 : Int) := by omega
        go_wp2_with fail
        go_region_held3 (fun w' => w'.cell? (ad1.add k) = some (.int .u8 x) ∧ w'.cell? (ad2.add k) = some (.int .u8 y) ∧ w'.cell? (ad3.add k) = some (.int .u8 z))
          (first | go_keep | exact ⟨(hbl2.cell (by rw [addr_add_block]; exact hd1)).trans hc1, (hbl2.cell (by rw [addr_add_block]; exact hd2)).trans hc2, (hbl2.cell (by rw [addr_add_block]; exact hd3)).trans hc3⟩)
          ((refine step_append_one _ (by rfl) _ _ _ (by rfl) w1.heap.size 5 _ 1 elem8 u7 k _ (by rfl) (hown.drew.alloc _) wr.heap.size _ (by rfl) (cell_one_new _ _ _) (by rfl) (by unfold maxLen; omega) (by omega) (by simp; omega) ?_; intro v2 w2 hown2 hg2; have hbl2 := below_app_drew hown hsz hg2))
        go_wp2
        go_roundw
        case rel => exact ⟨k + 1, by omega, by go_num, by rw [HP.out, ← HB.out]; exact hown2, hbl.trans hbl2⟩
        case measure => simp [intOf]; omega
      · obtain rfl : len1 = k := by omega
        rw [List.take_of_length_le (by rw [HTL.out]; exact Nat.le_refl _)] at hown
        obtain ⟨A4, c4, rfl⟩ := own_slice hown
        go_wp2_with fail
        refine (sum_any A4 len1 c4 ts wr HL1.out HTL.out hto _ (Rd.own hown)).mono ?_
        rintro e w4 ⟨rfl, rfl⟩
        go_wp2_with fail
        refine (sum_any A1 len1 cap1 xs wr HL1.out HX.out ho1 _ (hr1.below hbl)).mono ?_
        rintro e w4 ⟨rfl, rfl⟩
        go_wp2_with fail
        refine (sum_any A2 len1 cap2 ys wr HL1.out HY.out ho2 _ (hr2.below hbl)).mono ?_
        rintro e w4 ⟨rfl, rfl⟩
        go_wp2_with fail
        refine (sum_any A3 len1 cap3 zs wr HL1.out HZ.out ho3 _ (hr3.below hbl)).mono ?_
        rintro e w4 ⟨rfl, rfl⟩
        rw [HT.out]
        have h12 := u32_xor_nat _ _ hs1 hs2
        have h123 := u32_xor_nat _ _ (xor_lt hs1 hs2) hs3
        have hq : ((((Crc.sum xs ^^^ Crc.sum ys ^^^ Crc.sum zs : Nat) : Int)) == (((Crc.sum xs ^^^ Crc.sum ys ^^^ Crc.sum zs : Nat) : Int))) = true := beq_self_eq_true _
        generalize Crc.sum xs ^^^ Crc.sum ys ^^^ Crc.sum zs = s3 at *
        generalize Crc.sum xs ^^^ Crc.sum ys = s2 at *
        go_wp2
        go_ret
        exact ⟨rfl, bthen hb1 hbl⟩
  · clear hr1 hr2 hr3 hx hy hz
    by_cases h12 : len1 = len2
    · subst h12
      by_cases h13 : len1 = len3
      · subst h13
        have hd : (500 : Int) < len1 := by omega
        clear hgo
        go_enter Try.func8, Try.ntmps8
        go_wp2_with fail
        refine (awake2_any _).mono ?_
        rintro e w1 ⟨rfl, hb1⟩
        go_wp2_with fail
        refine (awake2_any _).mono ?_
        rintro e w2 ⟨rfl, hb2⟩
        go_wp2
        go_ret
        exact ⟨rfl, bthen hb1 hb2⟩
      · have hd : ((len1 : Int) != (len3 : Int)) = true := by rw [bne_iff_ne]; omega
        clear hgo
        go_enter Try.func8, Try.ntmps8
        go_wp2_with fail
        refine (awake2_any _).mono ?_
        rintro e w1 ⟨rfl, hb1⟩
        go_wp2_with fail
        refine (awake2_any _).mono ?_
        rintro e w2 ⟨rfl, hb2⟩
        go_wp2
        go_ret
        exact ⟨rfl, bthen hb1 hb2⟩
    · have hd : ((len1 : Int) != (len2 : Int)) = true := by rw [bne_iff_ne]; omega
      clear hgo
      go_enter Try.func8, Try.ntmps8
      go_wp2_with fail
      refine (awake2_any _).mono ?_
      rintro e w1 ⟨rfl, hb1⟩
      go_wp2_with fail
      refine (awake2_any _).mono ?_
      rintro e w2 ⟨rfl, hb2⟩
      go_wp2
      go_ret
      exact ⟨rfl, bthen hb1 hb2⟩
end Go.Proofs.Ytapnjinkadinbaa

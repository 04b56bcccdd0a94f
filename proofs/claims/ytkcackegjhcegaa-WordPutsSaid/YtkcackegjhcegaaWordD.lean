/-
  The rest of the contracts: the document's answers for package word.
-/
import Derived.Test.YtkcackegjhcegaaWordC
namespace Go.Proofs.Ytkcackegjhcegaa
open Go.RowKit Word

theorem fits_yes (A : Option Addr) (len cap : Nat) (at_ n : Int) (w : World) (hl : len ≤ maxLen) (h1 : 1 ≤ n) (h8 : n ≤ 8) (h0 : 0 ≤ at_) (hf : at_ + n ≤ len) :
    Calls Try.prog 11 #[.slice A len cap, .int .i64 at_, .int .i64 n] w fun e w' => e = .returned (.bool true) ∧ w = w' := by
  unfold maxLen at hl
  have hf' : n ≤ len - at_ := by omega
  go_enter Try.func11, Try.ntmps11
  go_wp2
  all_goals go_ret
  all_goals refine ⟨?_, rfl⟩
  all_goals (simp; try omega)

theorem fits_no (A : Option Addr) (len cap : Nat) (at_ n : Int) (w : World) (hl : len ≤ maxLen) (hf : ¬ (1 ≤ n ∧ n ≤ 8 ∧ 0 ≤ at_ ∧ at_ + n ≤ len)) :
    Calls Try.prog 11 #[.slice A len cap, .int .i64 at_, .int .i64 n] w fun e w' => e = .returned (.bool false) ∧ w = w' := by
  unfold maxLen at hl
  go_enter Try.func11, Try.ntmps11
  go_wp2
  all_goals go_ret
  all_goals refine ⟨?_, rfl⟩
  all_goals first | rfl | (simp; omega)

theorem rget_any (A : Option Addr) (len cap : Nat) (at_ n : Nat) (w : World) (hl : len ≤ maxLen) (h8 : n ≤ 8) (hn : 1 ≤ n) (hf : at_ + n ≤ len) (zs : List Int) (hb : octets zs) (hlen : zs.length = len)
    (B : Nat) (hr : Rd w B A (bs zs)) :
    Calls Try.prog 15 #[.slice A len cap, .int .i64 at_, .int .i64 n] w fun e w' => e = .returned (.int .u64 (get zs at_ n)) ∧ w = w' := by
  have HL := Lib.hid hlen
  clear hlen
  unfold maxLen at hl
  go_enter Try.func15, Try.ntmps15
  go_wp2
  go_loop [8, 7] (fun i t => ∃ k : Nat, k ≤ n ∧ i = .int .i64 ((k : Int) - 1) ∧ t = .int .u64 (horn zs at_ k n)) (fun i _ => (intOf i + 1).toNat)
  case atStart => exact ⟨n, by omega, rfl, by simp [horn, val]⟩
  case round =>
    obtain ⟨k, hk, rfl, rfl⟩ := hrel
    rcases k with _ | k
    · go_wp2
      go_ret
      exact ⟨ret_u64 (by simp [Word.get, horn]), rfl⟩
    · obtain ⟨ad, rfl, _, hc⟩ := hr.at (bs_get (k := at_ + k) (by rw [HL.out]; omega))
      have HS := Lib.hid (horn_step zs at_ k n (by omega) (by rw [HL.out]; omega))
      have hb1 := horn_bounds zs at_ (k + 1) n hb
      have hb2 := horn_bounds zs at_ k n hb
      have hb3 := pow8_le (n - (k + 1)) 7 (by omega)
      have hb4 : (2 : Int) ^ (8 * 7) = 72057594037927936 := by decide
      have hc0 := (octets_getD hb (at_ + k)).1
      have hc1 := (octets_getD hb (at_ + k)).2
      have hm : horn zs at_ (k + 1) n < 72057594037927936 := by omega
      have hm0 := hb1.1
      rw [show (((k + 1 : Nat) : Int) - 1) = (k : Int) from by omega]
      generalize zs.getD (at_ + k) 0 = c at hc HS hc0 hc1
      generalize horn zs at_ (k + 1) n = h at *
      clear hr hb1 hb2 hb3 hb4
      go_wp2
      go_round
      case rel => exact ⟨k, by omega, rfl, by rw [HS.out]⟩
      case measure => simp [intOf]

theorem same_any (A A' : Option Addr) (len cap len' cap' : Nat) (w : World) (hl : len ≤ maxLen) (hl' : len' ≤ maxLen) (xs ys : List Int) (hx : xs.length = len) (hy : ys.length = len')
    (B : Nat) (hr : Rd w B A (bs xs)) (hr' : Rd w B A' (bs ys)) :
    Calls Try.prog 12 #[.slice A len cap, .slice A' len' cap'] w fun e w' => e = .returned (.bool (xs == ys)) ∧ ∃ n, w.drewN n = w' := by
  have HX := Lib.hid hx
  have HY := Lib.hid hy
  clear hx hy
  unfold maxLen at hl hl'
  by_cases hne : len = len'
  · subst hne
    go_enter Try.func12, Try.ntmps12
    go_wp2
    go_loopw [5] (fun i wr => ∃ k : Nat, k ≤ len ∧ i = .int .i64 k ∧ xs.take k = ys.take k ∧ ∃ n, w.drewN n = wr) (fun i _ => len - (intOf i).toNat)
    case atStart => exact ⟨0, by omega, rfl, rfl, 0, rfl⟩
    case round =>
      obtain ⟨k, hk, rfl, HT, q, rfl⟩ := hrel
      have HT := Lib.hid HT
      by_cases hlt : k < len
      · have hx := hr.at (bs_get (k := k) (by rw [HX.out]; omega))
        have hy := hr'.at (bs_get (k := k) (by rw [HY.out]; omega))
        obtain ⟨ad, rfl, _, hc⟩ := hx
        obtain ⟨ad', rfl, _, hc'⟩ := hy
        have e : xs.take (k + 1) = xs.take k ++ [xs.getD k 0] := by rw [List.take_succ_eq_append_getElem (by rw [HX.out]; omega)]; simp [HX.out, hlt]
        have e' : ys.take (k + 1) = ys.take k ++ [ys.getD k 0] := by rw [List.take_succ_eq_append_getElem (by rw [HY.out]; omega)]; simp [HY.out, hlt]
        generalize xs.getD k 0 = c at hc e
        generalize ys.getD k 0 = c' at hc' e'
        have HE := Lib.hid e
        have HE' := Lib.hid e'
        clear e e' hr hr'
        by_cases hcc : c = c'
        · subst hcc
          have hq : (c != c) = false := by simp
          go_wp2
          go_quiet (fail)
          go_wp2
          go_roundw
          case rel => exact ⟨k + 1, by omega, by go_num, by rw [HE.out, HE'.out, HT.out], _, rfl⟩
          case measure => simp [intOf]; omega
        · have hq : (c != c') = true := by simp [hcc]
          have hxy : (xs == ys) = false := by
            rw [beq_eq_false_iff_ne]
            rintro rfl
            have h := HE.out.symm.trans HE'.out
            simp at h
            exact hcc h
          have HXY := Lib.hid hxy
          clear hxy
          go_wp2
          go_quiet (fail)
          go_wp2
          go_ret
          exact ⟨ret_bool HXY.out, _, (World.drewN_drewN ..).symm⟩
      · obtain rfl : len = k := by omega
        have HXY := Lib.hid (show (xs == ys) = true by
          have h := HT.out
          rw [List.take_of_length_le (by rw [HX.out]; omega), List.take_of_length_le (by rw [HY.out]; omega)] at h
          rw [h, beq_self_eq_true])
        go_wp2
        go_ret
        exact ⟨ret_bool HXY.out, _, rfl⟩
  · have HXY := Lib.hid (show (xs == ys) = false by
      rw [beq_eq_false_iff_ne]
      rintro rfl
      have h1 := HX.out
      have h2 := HY.out
      omega)
    have hq : ((len : Int) != (len' : Int)) = true := by rw [bne_iff_ne]; omega
    go_enter Try.func12, Try.ntmps12
    go_wp2
    go_ret
    exact ⟨ret_bool HXY.out, 0, rfl⟩

theorem elem8 : Elem Try.prog 22 5 (.int .u8 0) 1 1 := .of Try.underlying22 (by kernel_rfl) rfl (by omega)

theorem rput_any (A : Option Addr) (len cap : Nat) (at_ n : Nat) (x : Int) (w : World) (hl : len ≤ 65536) (h8 : n ≤ 8) (hf : at_ + n ≤ len) (zs : List Int) (hlen : zs.length = len) (hx : 0 ≤ x ∧ x < 18446744073709551616)
    (hr : Rd w w.heap.size A (bs zs)) :
    Calls Try.prog 13 #[.slice A len cap, .int .i64 at_, .int .i64 n, .int .u64 x] w fun e w' =>
      ∃ A' c', e = .returned (.slice A' len c') ∧ w'.ownsRow w.heap.size 5 1 (.slice A' len c') len (bs (put zs at_ n x)) ∧ Below w.heap.size w w' := by
  have HL := Lib.hid hlen
  clear hlen
  go_enter Try.func13, Try.ntmps13
  go_wp2
  go_loopw [10, 9, 3] (fun i o t wr => ∃ k : Nat, k ≤ len ∧ i = .int .i64 k ∧ t = .int .u64 (x / 2 ^ (8 * (min (k - at_) n))) ∧ wr.ownsRow w.heap.size 5 1 o k (bs ((put zs at_ n x).take k)) ∧ Below w.heap.size w wr) (fun i _ _ _ => len - (intOf i).toNat)
  case atStart => exact ⟨0, by omega, rfl, by simp, by simpa [bs] using World.ownsRow_nil _ _ _ _, Below.refl _ _⟩
  case round =>
    obtain ⟨k, hk, rfl, rfl, hown, hbl⟩ := hrel
    by_cases hlt : k < len
    · by_cases hin : at_ ≤ k ∧ k < at_ + n
      · obtain ⟨ha, hb⟩ := hin
        have hm : min (k - at_) n = k - at_ := by omega
        rw [hm]
        have HP := Lib.hid (show bs ((put zs at_ n x).take (k + 1)) = bs ((put zs at_ n x).take k) ++ [.int .u8 (x / 2 ^ (8 * (k - at_)) % 256)] by
          rw [List.take_add_one, put_in _ _ _ _ _ (by rw [HL.out]; omega) ha hb]; simp [bs])
        have hn : min (k + 1 - at_) n = k - at_ + 1 := by omega
        have HN := Lib.hid (show x / 2 ^ (8 * (min (k + 1 - at_) n)) = x / 2 ^ (8 * (k - at_)) / 256 by
          rw [hn, pow8_succ, Int.mul_comm, Int.ediv_ediv_of_nonneg (Int.le_of_lt (pow8_pos _))])
        have hy : 0 ≤ x / 2 ^ (8 * (k - at_)) := Int.ediv_nonneg hx.1 (Int.le_of_lt (pow8_pos _))
        have hy2 : x / 2 ^ (8 * (k - at_)) < 18446744073709551616 := Int.lt_of_le_of_lt (Int.ediv_le_self _ hx.1) hx.2
        generalize x / 2 ^ (8 * (k - at_)) = y at HP HN hy hy2
        clear hm hn hr
        go_wp2_with (at_builtin; refine wpList_append_one _ rfl _ _ _ rfl w.heap.size 5 _ 1 elem8 u9 k _ rfl _ rfl hown rfl (by simp only [maxLen]; omega) (by omega) hbl.size ?_; intro v1 w1 hown1 hg1)
        go_roundw
        case rel => exact ⟨k + 1, by omega, by go_num, by rw [HN.out], by rw [HP.out]; exact hown1, hbl.grown hg1 hbl.size fun g hg => (hown.lt g hg).1⟩
        case measure => simp [intOf]; omega
      · by_cases ha : at_ ≤ k
        · have hb : ¬ k < at_ + n := by omega
          have HP := Lib.hid (show bs ((put zs at_ n x).take (k + 1)) = bs ((put zs at_ n x).take k) ++ [.int .u8 (zs.getD k 0)] by
            rw [List.take_add_one, put_out _ _ _ _ _ (by rw [HL.out]; omega) (by omega)]; simp [bs, HL.out, hlt])
          have HN := Lib.hid (show x / 2 ^ (8 * (min (k + 1 - at_) n)) = x / 2 ^ (8 * (min (k - at_) n)) by
            rw [show min (k + 1 - at_) n = min (k - at_) n from by omega])
          generalize x / 2 ^ (8 * (min (k - at_) n)) = y at HP HN
          obtain ⟨ad, rfl, _, hc⟩ := (hr.below hbl).at (bs_get (k := k) (by rw [HL.out]; omega))
          generalize zs.getD k 0 = c at hc HP
          clear hr
          go_wp2_with (at_builtin; refine wpList_append_one _ rfl _ _ _ rfl w.heap.size 5 _ 1 elem8 u9 k _ rfl _ rfl hown rfl (by simp only [maxLen]; omega) (by omega) hbl.size ?_; intro v1 w1 hown1 hg1)
          go_roundw
          case rel => exact ⟨k + 1, by omega, by go_num, by rw [HN.out], by rw [HP.out]; exact hown1, hbl.grown hg1 hbl.size fun g hg => (hown.lt g hg).1⟩
          case measure => simp [intOf]; omega
        · have HP := Lib.hid (show bs ((put zs at_ n x).take (k + 1)) = bs ((put zs at_ n x).take k) ++ [.int .u8 (zs.getD k 0)] by
            rw [List.take_add_one, put_out _ _ _ _ _ (by rw [HL.out]; omega) (by omega)]; simp [bs, HL.out, hlt])
          have HN := Lib.hid (show x / 2 ^ (8 * (min (k + 1 - at_) n)) = x / 2 ^ (8 * (min (k - at_) n)) by
            rw [show min (k + 1 - at_) n = min (k - at_) n from by omega])
          generalize x / 2 ^ (8 * (min (k - at_) n)) = y at HP HN
          obtain ⟨ad, rfl, _, hc⟩ := (hr.below hbl).at (bs_get (k := k) (by rw [HL.out]; omega))
          generalize zs.getD k 0 = c at hc HP
          clear hr
          go_wp2_with (at_builtin; refine wpList_append_one _ rfl _ _ _ rfl w.heap.size 5 _ 1 elem8 u9 k _ rfl _ rfl hown rfl (by simp only [maxLen]; omega) (by omega) hbl.size ?_; intro v1 w1 hown1 hg1)
          go_roundw
          case rel => exact ⟨k + 1, by omega, by go_num, by rw [HN.out], by rw [HP.out]; exact hown1, hbl.grown hg1 hbl.size fun g hg => (hown.lt g hg).1⟩
          case measure => simp [intOf]; omega
    · obtain rfl : len = k := by omega
      have e : (put zs at_ n x).take len = put zs at_ n x := List.take_of_length_le (by rw [put_length _ _ _ _ (by rw [HL.out]; omega), HL.out]; exact Nat.le_refl _)
      rw [e] at hown
      obtain ⟨A', c', hv⟩ := own_slice hown
      rw [hv] at hown ⊢
      clear hv
      go_wp2
      go_ret
      exact ⟨A', c', rfl, hown, hbl⟩

end Go.Proofs.Ytkcackegjhcegaa

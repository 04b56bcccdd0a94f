/-
  What each function of package crc does: one contract a function.
-/
import Derived.Test.YtoehflalpidhfaaBytes
import Derived.Test.YtoehflalpidhfaaCrcM
namespace Go.Proofs.Ytoehflalpidhfaa
open Go.RowKit Word Crc
set_option linter.unusedVariables false

theorem steps_succ_odd (k x : Nat) (h : steps k x % 2 = 1) : steps (k + 1) x = (steps k x / 2) ^^^ poly := by show Crc.step _ = _; unfold Crc.step; rw [if_pos h]
theorem steps_succ_even (k x : Nat) (h : ¬ steps k x % 2 = 1) : steps (k + 1) x = steps k x / 2 := by show Crc.step _ = _; unfold Crc.step; rw [if_neg h]
theorem u32_low (a : Nat) (h : a < 4294967296) : bits .and .u32 (a : Int) 1 = (a % 2 : Nat) := by
  have := u32_and_nat a 1 h (by decide)
  rw [Nat.and_one_is_mod] at this
  exact this

theorem shifted_any (x : Nat) (w : World) (hx : x < 4294967296) :
    Calls Try.prog 64 #[.int .u32 x] w fun e w' => e = .returned (.int .u32 (steps 8 x : Nat)) ∧ w = w' := by
  go_enter Try.func64, Try.ntmps64
  go_wp2
  go_loop [0, 4] (fun s i => ∃ k : Nat, k ≤ 8 ∧ i = .int .i64 k ∧ s = .int .u32 (steps k x : Nat)) (fun _ i => 8 - (intOf i).toNat)
  case atStart => exact ⟨0, by omega, rfl, rfl⟩
  case round =>
    obtain ⟨k, hk, rfl, rfl⟩ := hrel
    by_cases hlt : k < 8
    · have h1 := steps_lt k hx
      have hO := steps_succ_odd k x
      have hE := steps_succ_even k x
      generalize steps k x = y at *
      by_cases hodd : y % 2 = 1
      · have HO := Lib.hid (hO hodd)
        have HX := Lib.hid (u32_xor_nat (y / 2) poly (by omega) (by decide))
        have hL : bits .and .u32 (y : Int) 1 = 1 := by rw [u32_low y h1, hodd]; rfl
        clear hO hE
        go_wp2
        go_round
        case rel => exact ⟨k + 1, by omega, by go_num, by rw [HO.out, ← HX.out]; rfl⟩
        case measure => simp [intOf]; omega
      · have HE := Lib.hid (hE hodd)
        have hL : bits .and .u32 (y : Int) 1 = 0 := by rw [u32_low y h1]; omega
        clear hO hE
        go_wp2
        go_round
        case rel => exact ⟨k + 1, by omega, by go_num, by rw [HE.out]; rfl⟩
        case measure => simp [intOf]; omega
    · obtain rfl : k = 8 := by omega
      go_wp2
      go_ret
      exact ⟨rfl, rfl⟩

theorem byte_eq (r : Nat) (c : Int) : steps 8 (r ^^^ c.toNat) = byte r c := rfl
theorem not_u32 (x : Nat) (hx : x < 4294967296) : bits .xor .u32 IntKind.u32.max (x : Int) = ((inv x : Nat) : Int) := by
  have h := u32_xor_nat full x full_lt hx
  rw [Nat.xor_comm] at h
  exact h
theorem oct_xor (r : Nat) (c : Int) (hr : r < 4294967296) (hc : 0 ≤ c ∧ c ≤ 255) : bits .xor .u32 (r : Int) c = ((r ^^^ c.toNat : Nat) : Int) := by
  have h := u32_xor_nat r c.toNat hr (by omega)
  rwa [Int.toNat_of_nonneg hc.1] at h
theorem more_any (x : Nat) (A : Option Addr) (len cap : Nat) (zs : List Int) (w : World) (hx : x < 4294967296) (hl : len ≤ maxLen) (hlen : zs.length = len) (hb : octets zs) (B : Nat) (hr : Rd w B A (bs zs)) :
    Calls Try.prog 59 #[.int .u32 x, .slice A len cap] w fun e w' => e = .returned (.int .u32 (more x zs : Nat)) ∧ w = w' := by
  have HL := Lib.hid hlen
  clear hlen
  unfold maxLen at hl
  have hN := not_u32 x hx
  have hi := inv_lt hx
  have HM := Lib.hid (show more x zs = inv (run (inv x) zs) from rfl)
  generalize more x zs = res at HM ⊢
  generalize inv x = y at *
  clear hx
  go_enter Try.func59, Try.ntmps59
  go_wp2
  clear hN
  go_loop [5, 12] (fun s i => ∃ k : Nat, k ≤ len ∧ i = .int .i64 k ∧ s = .int .u32 (run y (zs.take k) : Nat)) (fun _ i => len - (intOf i).toNat)
  case atStart => exact ⟨0, by omega, rfl, rfl⟩
  case round =>
    obtain ⟨k, hk, rfl, rfl⟩ := hrel
    have hbk : octets (zs.take k) := fun z hz => hb z (List.mem_of_mem_take hz)
    have hrl := run_lt hbk hi
    by_cases hlt : k < len
    · obtain ⟨ad, rfl, _, hc⟩ := hr.at (bs_get (k := k) (by rw [HL.out]; omega))
      have HS := Lib.hid (show run y (zs.take (k + 1)) = byte (run y (zs.take k)) (zs.getD k 0) by
        rw [List.take_succ_eq_append_getElem (by rw [HL.out]; omega), run_snoc]; simp [HL.out, hlt])
      have hz := octets_getD hb k
      generalize run y (zs.take k) = r at *
      generalize zs.getD k 0 = c at *
      have hX := oct_xor r c hrl hz
      have HB := Lib.hid (byte_eq r c)
      have hxl : r ^^^ c.toNat < 4294967296 := xor_lt hrl (by omega)
      generalize r ^^^ c.toNat = q at *
      have hz0 := hz.1
      have hz1 := hz.2
      clear hr hz
      go_wp2_with (go_at_call 64; refine (shifted_any q _ hxl).mono ?_; rintro e w' ⟨rfl, rfl⟩)
      go_round
      case rel => exact ⟨k + 1, by omega, by go_num, by rw [HS.out, ← HB.out]⟩
      case measure => simp [intOf]; omega
    · obtain rfl : len = k := by omega
      have e : zs.take len = zs := List.take_of_length_le (by rw [HL.out]; exact Nat.le_refl _)
      rw [e] at hrl ⊢
      have hN := not_u32 (run y zs) hrl
      have hM : inv (run y zs) = res := HM.out.symm
      generalize run y zs = r at *
      subst hM
      go_wp2
      go_ret
      exact ⟨rfl, rfl⟩

theorem sum_any (A : Option Addr) (len cap : Nat) (zs : List Int) (w : World) (hl : len ≤ maxLen) (hlen : zs.length = len) (hb : octets zs) (B : Nat) (hr : Rd w B A (bs zs)) :
    Calls Try.prog 51 #[.slice A len cap] w fun e w' => e = .returned (.int .u32 (Crc.sum zs : Nat)) ∧ w = w' := by
  have H := more_any 0 A len cap zs w (by decide) hl hlen hb B hr
  rw [sum_eq_more] at H
  have HH := Lib.hid H
  clear H hlen hr hb
  go_enter Try.func51, Try.ntmps51
  go_wp2_with (go_at_call 59; refine HH.out.mono ?_; rintro e w' ⟨rfl, rfl⟩)
  go_ret
  exact ⟨rfl, rfl⟩

def sealed (zs : List Int) : List Int := zs ++ le 4 (Crc.sum zs : Nat)
theorem sealed_length (zs : List Int) : (sealed zs).length = zs.length + 4 := by simp [sealed, le_length]
theorem sealed_octets {zs : List Int} (h : octets zs) : octets (sealed zs) := fun y hy => by
  rcases List.mem_append.1 hy with hy | hy
  · exact h y hy
  · exact le_bytes _ _ y hy

set_option maxHeartbeats 400000 in
theorem seal_any (A : Option Addr) (len cap : Nat) (zs : List Int) (w : World) (hl : len ≤ 65536) (hlen : zs.length = len) (hb : octets zs) (hr : Rd w w.heap.size A (bs zs)) :
    Calls Try.prog 49 #[.slice A len cap] w fun e w' => ∃ A' c', e = .returned (.slice A' (len + 4) c') ∧ w'.ownsRow w.heap.size 5 1 (.slice A' (len + 4) c') (len + 4) (bs (sealed zs)) ∧ Below w.heap.size w w' := by
  have HL := Lib.hid hlen
  have HB := Lib.hid (bs_length zs)
  have hsum := sum_lt hb
  have HS := Lib.hid (show sealed zs = zs ++ le 4 (Crc.sum zs : Nat) from rfl)
  generalize sealed zs = res at HS ⊢
  have HA := Lib.hid fun w hr => sum_any A len cap zs w (by unfold maxLen; omega) hlen hb w.heap.size hr
  generalize Crc.sum zs = sm at *
  clear hlen hb
  go_enter Try.func49, Try.ntmps49
  go_wp2_with (first
    | (at_make; refine wpList_make_z _ rfl _ _ 30 rfl 5 _ 1 elem8 rfl .i64 .i64 (len + 4) (len + 4) (len + 4) rfl rfl (by omega) (by omega) (by unfold maxLen; omega) (by omega) ?_; intro w1 hown1 hb1)
    | ((with_reducible refine wpList_copy_rd (o := ⟨some 12, _, _, _, _, _⟩) _ rfl _ _ 30 rfl w.heap.size 5 _ 1 elem8 w.heap.size (len + 4) (len + 4) _ rfl hown1 w.heap.size A len cap (bs zs) rfl (by rw [HB.out, HL.out]) (hr.below hb1) (bs_one zs) (by omega) ?_); intro w2 hown2 hg2)
    | fail)
  have hb2 : Below w.heap.size w w2 := below_stored hb1 hg2 hb1.size (Nat.le_refl _)
  refine (HA.out w2 ((hr.below hb2).more hb2.size)).mono ?_
  rintro e w3 ⟨rfl, rfl⟩
  have HE : Hid (bs zs ++ (List.replicate (len + 4) (Value.int .u8 0)).drop len = bs (put (zs ++ List.replicate 4 0) len 0 sm)) := Lib.hid (by
    rw [put_zero, bs_append, bs_replicate]; simp)
  rw [HE.out] at hown2
  have HZ := Lib.hid (show (zs ++ List.replicate 4 (0 : Int)).length = len + 4 by simp [HL.out])
  clear HE hown1 hr
  go_wp2_with fail
  go_loopw [15, 5] (fun i v wr => ∃ k : Nat, k ≤ 4 ∧ i = .int .i64 k ∧ wr.ownsRow w.heap.size 5 1 (.slice (some ⟨w.heap.size, 0, none⟩) (len + 4) (len + 4)) (len + 4) (bs (put (zs ++ List.replicate 4 0) len k sm)) ∧ Below w.heap.size w wr) (fun i _ _ => 4 - (intOf i).toNat)
  case atStart => exact ⟨0, by omega, rfl, hown2, hb2⟩
  case round =>
    obtain ⟨k, hk, rfl, hown, hbr⟩ := hrel
    clear hown2 hb2 hg2 hb1
    by_cases hlt : k < 4
    · have hlp : (put (zs ++ List.replicate 4 0) len k sm).length = len + 4 := (put_length _ _ _ _ (by rw [HZ.out]; omega)).trans HZ.out
      have hc := (hown.cellAt (len + k) (by omega)).trans (bs_get (by rw [hlp]; omega))
      generalize (put (zs ++ List.replicate 4 0) len k sm).getD (len + k) 0 = c0 at hc
      have hz := hown.frozenAt (len + k)
      have HW := Lib.hid hown
      have hsz := hbr.size
      clear hown hlp
      go_wp2
      go_roundw
      case rel =>
        have h1 := HW.out.stored (len + k) (.int .u8 ((sm : Int) / 2 ^ (8 * k) % 256))
        refine ⟨k + 1, by omega, by go_num, ?_, below_stored hbr h1.2 hbr.size (Nat.le_refl _)⟩
        rw [← put_succ _ _ _ _ (by rw [HZ.out]; omega), bs_set]
        exact h1.1
      case measure => simp [intOf]; omega
    · obtain rfl : k = 4 := by omega
      go_wp2
      go_ret
      refine ⟨_, _, rfl, ?_, hbr⟩
      rw [HS.out, ← put_end zs (List.replicate 4 0) len 4 sm HL.out (by simp)]
      exact hown

def rightB (zs : List Int) : Bool := decide (4 ≤ zs.length) && (val (zs.drop (zs.length - 4)) == ((Crc.sum (zs.take (zs.length - 4)) : Nat) : Int))

theorem u32_place (x c : Int) (k : Nat) (hk : k < 4) (hx : 0 ≤ x ∧ x < 2 ^ (8 * k)) (hc : 0 ≤ c) (hc' : c ≤ 255) :
    bits .or .u32 x (c * 2 ^ (8 * k) % 4294967296) = x + c * 2 ^ (8 * k) := by
  obtain ⟨a, rfl⟩ := Int.eq_ofNat_of_zero_le hx.1
  obtain ⟨b, rfl⟩ := Int.eq_ofNat_of_zero_le hc
  have hp : ((2 : Int) ^ (8 * k)) = ((2 ^ (8 * k) : Nat) : Int) := by simp
  have ha : a < 2 ^ (8 * k) := by have := hx.2; rw [hp] at this; omega
  have hq : (2 : Nat) ^ (8 * k) ≤ 16777216 := Nat.pow_le_pow_right (n := 2) (by decide) (show 8 * k ≤ 24 by omega)
  have hm : b * 2 ^ (8 * k) ≤ 255 * 16777216 := Nat.mul_le_mul (by omega) hq
  rw [hp, show ((b : Int) * ((2 ^ (8 * k) : Nat) : Int)) = ((b * 2 ^ (8 * k) : Nat) : Int) from by simp]
  rw [show ((b * 2 ^ (8 * k) : Nat) : Int) % 4294967296 = ((b * 2 ^ (8 * k) : Nat) : Int) from by omega]
  rw [u32_or_nat a _ (by omega) (by omega)]
  rw [Nat.or_comm, Nat.mul_comm b, ← Nat.two_pow_add_eq_or_of_lt ha]
  omega

set_option maxHeartbeats 400000 in
theorem cright_any (A : Option Addr) (len cap : Nat) (zs : List Int) (w : World) (hl : len ≤ 65536) (hcap : len ≤ cap) (hcm : cap ≤ maxLen) (hlen : zs.length = len) (hb : octets zs) (B : Nat) (hr : Rd w B A (bs zs)) :
    Calls Try.prog 44 #[.slice A len cap] w fun e w' => e = .returned (.bool (rightB zs)) ∧ ∃ q, w.drewN q = w' := by
  have HL := Lib.hid hlen
  unfold maxLen at hcm
  by_cases h4 : len < 4
  · have HR := Lib.hid (show rightB zs = false by simp [rightB, hlen]; omega)
    clear hlen
    have h4' : (len : Int) < 4 := by omega
    go_enter Try.func44, Try.ntmps44
    go_wp2
    go_ret
    exact ⟨ret_bool HR.out, 0, rfl⟩
  · obtain ⟨n, rfl⟩ : ∃ n, len = n + 4 := ⟨len - 4, by omega⟩
    have HR := Lib.hid (show rightB zs = (val (zs.drop n) == ((Crc.sum (zs.take n) : Nat) : Int)) by simp [rightB, hlen])
    have hbt : octets (zs.take n) := fun y hy => hb y (List.mem_of_mem_take hy)
    have hbd : octets (zs.drop n) := fun y hy => hb y (List.mem_of_mem_drop hy)
    have hrt : Rd w B A (bs (zs.take n)) := by rw [bs_take]; exact hr.front
    obtain ⟨ad, rfl, _, _⟩ := hr.at (k := 0) (u := .int .u8 (zs.getD 0 0)) (bs_get (by omega))
    have hrd : Rd w B (some (ad.add n)) (bs (zs.drop n)) := by rw [bs_drop]; exact hr.tail
    have HD := Lib.hid (show (zs.drop n).length = 4 by simp; omega)
    have HA := Lib.hid fun (w : World) hr => sum_any (some ad) n cap (zs.take n) w (by unfold maxLen; omega) (by simp; omega) hbt B hr
    have HT := Lib.hid fun q => hrt.drewN q
    generalize zs.drop n = ys at *
    generalize Crc.sum (zs.take n) = sm at *
    generalize zs.take n = xs at *
    clear hlen hr hb hrt hbt
    go_enter Try.func44, Try.ntmps44
    go_wp2
    go_quiet (fail)
    go_wp2
    go_loop [5, 23] (fun t i => ∃ k : Nat, k ≤ 4 ∧ i = .int .i64 k ∧ t = .int .u32 (val (ys.take k))) (fun _ i => 4 - (intOf i).toNat)
    case atStart => exact ⟨0, by omega, rfl, rfl⟩
    case round =>
      obtain ⟨k, hk, rfl, rfl⟩ := hrel
      by_cases hlt : k < 4
      · have hc := hrd.tail_at (bs_get (k := k) (by rw [HD.out]; omega))
        have hv := val_bounds (ys.take k) (fun y hy => hbd y (List.mem_of_mem_take hy))
        have HV := Lib.hid (val_snoc (ys.take k) (ys.getD k 0))
        have HK := Lib.hid (show ys.take (k + 1) = ys.take k ++ [ys.getD k 0] by
          rw [List.take_succ_eq_append_getElem (by rw [HD.out]; omega)]; simp [HD.out, hlt])
        have hlk : (ys.take k).length = k := by simp [HD.out]; omega
        rw [hlk] at hv HV
        have HO := Lib.hid (u32_place (val (ys.take k)) (ys.getD k 0) k hlt hv (octets_getD hbd k).1 (octets_getD hbd k).2)
        have h0 := (octets_getD hbd k).1
        have h1 := (octets_getD hbd k).2
        have hv0 := hv.1
        have hv1 : val (ys.take k) < 4294967296 := by
          have h1 := pow8_le k 4 hk
          have h2 : (2 : Int) ^ (8 * 4) = 4294967296 := by decide
          omega
        generalize ys.getD k 0 = c at *
        generalize val (ys.take k) = v at *
        clear hrd hv hlk
        go_wp2
        go_round
        case rel => exact ⟨k + 1, by omega, by go_num, by rw [HK.out, HV.out, HO.out]⟩
        case measure => simp [intOf]; omega
      · obtain rfl : k = 4 := by omega
        rw [List.take_of_length_le (by rw [HD.out]; exact Nat.le_refl _)]
        go_wp2_with (go_at_call 51; refine (HA.out _ (HT.out _)).mono ?_; rintro e w' ⟨rfl, rfl⟩)
        go_ret
        exact ⟨ret_bool HR.out, _, rfl⟩
end Go.Proofs.Ytoehflalpidhfaa

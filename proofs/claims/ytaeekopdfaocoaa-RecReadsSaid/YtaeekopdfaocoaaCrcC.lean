/-
  What each function of package crc does: one contract a function.
-/
import Derived.Test.YtaeekopdfaocoaaBytes
import Derived.Test.YtaeekopdfaocoaaCrcM
namespace Go.Proofs.Ytaeekopdfaocoaa
open Go.RowKit Word Crc
set_option linter.unusedVariables false

theorem steps_succ_odd (k x : Nat) (h : steps k x % 2 = 1) : steps (k + 1) x = (steps k x / 2) ^^^ poly := by show Crc.step _ = _; unfold Crc.step; rw [if_pos h]
theorem steps_succ_even (k x : Nat) (h : ¬ steps k x % 2 = 1) : steps (k + 1) x = steps k x / 2 := by show Crc.step _ = _; unfold Crc.step; rw [if_neg h]
theorem u32_low (a : Nat) (h : a < 4294967296) : bits .and .u32 (a : Int) 1 = (a % 2 : Nat) := by
  have := u32_and_nat a 1 h (by decide)
  rw [Nat.and_one_is_mod] at this
  exact this

theorem shifted_any (x : Nat) (w : World) (hx : x < 4294967296) :
    Calls Try.prog 31 #[.int .u32 x] w fun e w' => e = .returned (.int .u32 (steps 8 x : Nat)) ∧ w = w' := by
  go_enter Try.func31, Try.ntmps31
  go_wp2
  go_loop [0, 4] (fun s i => ∃ k : Nat, k ≤ 8 ∧ i = .int .i64 k ∧ s = .int .u32 (steps k x : Nat)) (fun _ i => 8 - (intOf i).toNat)
  case atStart => exact ⟨0, by omega, rfl, rfl⟩
  case round =>
    obtain ⟨k, hk, rfl, rfl⟩ := hrel
    by_cases hlt : k < 8
    · have h1 := steps_lt k hx
      have hO := steps_succ_odd k x
      have hE := steps_succ_even k x
      generalize steps k x = y at *
      by_cases hodd : y % 2 = 1
      · have HO := Lib.hid (hO hodd)
        have HX := Lib.hid (u32_xor_nat (y / 2) poly (by omega) (by decide))
        have hL : bits .and .u32 (y : Int) 1 = 1 := by rw [u32_low y h1, hodd]; rfl
        clear hO hE
        go_wp2
        go_round
        case rel => exact ⟨k + 1, by omega, by go_num, by rw [HO.out, ← HX.out]; rfl⟩
        case measure => simp [intOf]; omega
      · have HE := Lib.hid (hE hodd)
        have hL : bits .and .u32 (y : Int) 1 = 0 := by rw [u32_low y h1]; omega
        clear hO hE
        go_wp2
        go_round
        case rel => exact ⟨k + 1, by omega, by go_num, by rw [HE.out]; rfl⟩
        case measure => simp [intOf]; omega
    · obtain rfl : k = 8 := by omega
      go_wp2
      go_ret
      exact ⟨rfl, rfl⟩

theorem byte_eq (r : Nat) (c : Int) : steps 8 (r ^^^ c.toNat) = byte r c := rfl
theorem not_u32 (x : Nat) (hx : x < 4294967296) : bits .xor .u32 IntKind.u32.max (x : Int) = ((inv x : Nat) : Int) := by
  have h := u32_xor_nat full x full_lt hx
  rw [Nat.xor_comm] at h
  exact h
theorem oct_xor (r : Nat) (c : Int) (hr : r < 4294967296) (hc : 0 ≤ c ∧ c ≤ 255) : bits .xor .u32 (r : Int) c = ((r ^^^ c.toNat : Nat) : Int) := by
  have h := u32_xor_nat r c.toNat hr (by omega)
  rwa [Int.toNat_of_nonneg hc.1] at h
theorem more_any (x : Nat) (A : Option Addr) (len cap : Nat) (zs : List Int) (w : World) (hx : x < 4294967296) (hl : len ≤ maxLen) (hlen : zs.length = len) (hb : octets zs) (B : Nat) (hr : Rd w B A (bs zs)) :
    Calls Try.prog 27 #[.int .u32 x, .slice A len cap] w fun e w' => e = .returned (.int .u32 (more x zs : Nat)) ∧ w = w' := by
  have HL := Lib.hid hlen
  clear hlen
  unfold maxLen at hl
  have hN := not_u32 x hx
  have hi := inv_lt hx
  have HM := Lib.hid (show more x zs = inv (run (inv x) zs) from rfl)
  generalize more x zs = res at HM ⊢
  generalize inv x = y at *
  clear hx
  go_enter Try.func27, Try.ntmps27
  go_wp2
  clear hN
  go_loop [5, 12] (fun s i => ∃ k : Nat, k ≤ len ∧ i = .int .i64 k ∧ s = .int .u32 (run y (zs.take k) : Nat)) (fun _ i => len - (intOf i).toNat)
  case atStart => exact ⟨0, by omega, rfl, rfl⟩
  case round =>
    obtain ⟨k, hk, rfl, rfl⟩ := hrel
    have hbk : octets (zs.take k) := fun z hz => hb z (List.mem_of_mem_take hz)
    have hrl := run_lt hbk hi
    by_cases hlt : k < len
    · obtain ⟨ad, rfl, _, hc⟩ := hr.at (bs_get (k := k) (by rw [HL.out]; omega))
      have HS := Lib.hid (show run y (zs.take (k + 1)) = byte (run y (zs.take k)) (zs.getD k 0) by
        rw [List.take_succ_eq_append_getElem (by rw [HL.out]; omega), run_snoc]; simp [HL.out, hlt])
      have hz := octets_getD hb k
      generalize run y (zs.take k) = r at *
      generalize zs.getD k 0 = c at *
      have hX := oct_xor r c hrl hz
      have HB := Lib.hid (byte_eq r c)
      have hxl : r ^^^ c.toNat < 4294967296 := xor_lt hrl (by omega)
      generalize r ^^^ c.toNat = q at *
      have hz0 := hz.1
      have hz1 := hz.2
      clear hr hz
      go_wp2_with (go_at_call 31; refine (shifted_any q _ hxl).mono ?_; rintro e w' ⟨rfl, rfl⟩)
      go_round
      case rel => exact ⟨k + 1, by omega, by go_num, by rw [HS.out, ← HB.out]⟩
      case measure => simp [intOf]; omega
    · obtain rfl : len = k := by omega
      have e : zs.take len = zs := List.take_of_length_le (by rw [HL.out]; exact Nat.le_refl _)
      rw [e] at hrl ⊢
      have hN := not_u32 (run y zs) hrl
      have hM : inv (run y zs) = res := HM.out.symm
      generalize run y zs = r at *
      subst hM
      go_wp2
      go_ret
      exact ⟨rfl, rfl⟩

theorem sum_any (A : Option Addr) (len cap : Nat) (zs : List Int) (w : World) (hl : len ≤ maxLen) (hlen : zs.length = len) (hb : octets zs) (B : Nat) (hr : Rd w B A (bs zs)) :
    Calls Try.prog 19 #[.slice A len cap] w fun e w' => e = .returned (.int .u32 (Crc.sum zs : Nat)) ∧ w = w' := by
  have H := more_any 0 A len cap zs w (by decide) hl hlen hb B hr
  rw [sum_eq_more] at H
  have HH := Lib.hid H
  clear H hlen hr hb
  go_enter Try.func19, Try.ntmps19
  go_wp2_with (go_at_call 27; refine HH.out.mono ?_; rintro e w' ⟨rfl, rfl⟩)
  go_ret
  exact ⟨rfl, rfl⟩

def sealed (zs : List Int) : List Int := zs ++ le 4 (Crc.sum zs : Nat)
theorem sealed_length (zs : List Int) : (sealed zs).length = zs.length + 4 := by simp [sealed, le_length]
theorem sealed_octets {zs : List Int} (h : octets zs) : octets (sealed zs) := fun y hy => by
  rcases List.mem_append.1 hy with hy | hy
  · exact h y hy
  · exact le_bytes _ _ y hy

def rightB (zs : List Int) : Bool := decide (4 ≤ zs.length) && (val (zs.drop (zs.length - 4)) == ((Crc.sum (zs.take (zs.length - 4)) : Nat) : Int))

theorem u32_place (x c : Int) (k : Nat) (hk : k < 4) (hx : 0 ≤ x ∧ x < 2 ^ (8 * k)) (hc : 0 ≤ c) (hc' : c ≤ 255) :
    bits .or .u32 x (c * 2 ^ (8 * k) % 4294967296) = x + c * 2 ^ (8 * k) := by
  obtain ⟨a, rfl⟩ := Int.eq_ofNat_of_zero_le hx.1
  obtain ⟨b, rfl⟩ := Int.eq_ofNat_of_zero_le hc
  have hp : ((2 : Int) ^ (8 * k)) = ((2 ^ (8 * k) : Nat) : Int) := by simp
  have ha : a < 2 ^ (8 * k) := by have := hx.2; rw [hp] at this; omega
  have hq : (2 : Nat) ^ (8 * k) ≤ 16777216 := Nat.pow_le_pow_right (n := 2) (by decide) (show 8 * k ≤ 24 by omega)
  have hm : b * 2 ^ (8 * k) ≤ 255 * 16777216 := Nat.mul_le_mul (by omega) hq
  rw [hp, show ((b : Int) * ((2 ^ (8 * k) : Nat) : Int)) = ((b * 2 ^ (8 * k) : Nat) : Int) from by simp]
  rw [show ((b * 2 ^ (8 * k) : Nat) : Int) % 4294967296 = ((b * 2 ^ (8 * k) : Nat) : Int) from by omega]
  rw [u32_or_nat a _ (by omega) (by omega)]
  rw [Nat.or_comm, Nat.mul_comm b, ← Nat.two_pow_add_eq_or_of_lt ha]
  omega

set_option maxHeartbeats 400000 in
theorem cright_any (A : Option Addr) (len cap : Nat) (zs : List Int) (w : World) (hl : len ≤ 65536) (hcap : len ≤ cap) (hcm : cap ≤ maxLen) (hlen : zs.length = len) (hb : octets zs) (B : Nat) (hr : Rd w B A (bs zs)) :
    Calls Try.prog 22 #[.slice A len cap] w fun e w' => e = .returned (.bool (rightB zs)) ∧ ∃ q, w.drewN q = w' := by
  have HL := Lib.hid hlen
  unfold maxLen at hcm
  by_cases h4 : len < 4
  · have HR := Lib.hid (show rightB zs = false by simp [rightB, hlen]; omega)
    clear hlen
    have h4' : (len : Int) < 4 := by omega
    go_enter Try.func22, Try.ntmps22
    go_wp2
    go_ret
    exact ⟨ret_bool HR.out, 0, rfl⟩
  · obtain ⟨n, rfl⟩ : ∃ n, len = n + 4 := ⟨len - 4, by omega⟩
    have HR := Lib.hid (show rightB zs = (val (zs.drop n) == ((Crc.sum (zs.take n) : Nat) : Int)) by simp [rightB, hlen])
    have hbt : octets (zs.take n) := fun y hy => hb y (List.mem_of_mem_take hy)
    have hbd : octets (zs.drop n) := fun y hy => hb y (List.mem_of_mem_drop hy)
    have hrt : Rd w B A (bs (zs.take n)) := by rw [bs_take]; exact hr.front
    obtain ⟨ad, rfl, _, _⟩ := hr.at (k := 0) (u := .int .u8 (zs.getD 0 0)) (bs_get (by omega))
    have hrd : Rd w B (some (ad.add n)) (bs (zs.drop n)) := by rw [bs_drop]; exact hr.tail
    have HD := Lib.hid (show (zs.drop n).length = 4 by simp; omega)
    have HA := Lib.hid fun (w : World) hr => sum_any (some ad) n cap (zs.take n) w (by unfold maxLen; omega) (by simp; omega) hbt B hr
    have HT := Lib.hid fun q => hrt.drewN q
    generalize zs.drop n = ys at *
    generalize Crc.sum (zs.take n) = sm at *
    generalize zs.take n = xs at *
    clear hlen hr hb hrt hbt
    go_enter Try.func22, Try.ntmps22
    go_wp2
    go_quiet (fail)
    go_wp2
    go_loop [5, 23] (fun t i => ∃ k : Nat, k ≤ 4 ∧ i = .int .i64 k ∧ t = .int .u32 (val (ys.take k))) (fun _ i => 4 - (intOf i).toNat)
    case atStart => exact ⟨0, by omega, rfl, rfl⟩
    case round =>
      obtain ⟨k, hk, rfl, rfl⟩ := hrel
      by_cases hlt : k < 4
      · have hc := hrd.tail_at (bs_get (k := k) (by rw [HD.out]; omega))
        have hv := val_bounds (ys.take k) (fun y hy => hbd y (List.mem_of_mem_take hy))
        have HV := Lib.hid (val_snoc (ys.take k) (ys.getD k 0))
        have HK := Lib.hid (show ys.take (k + 1) = ys.take k ++ [ys.getD k 0] by
          rw [List.take_succ_eq_append_getElem (by rw [HD.out]; omega)]; simp [HD.out, hlt])
        have hlk : (ys.take k).length = k := by simp [HD.out]; omega
        rw [hlk] at hv HV
        have HO := Lib.hid (u32_place (val (ys.take k)) (ys.getD k 0) k hlt hv (octets_getD hbd k).1 (octets_getD hbd k).2)
        have h0 := (octets_getD hbd k).1
        have h1 := (octets_getD hbd k).2
        have hv0 := hv.1
        have hv1 : val (ys.take k) < 4294967296 := by
          have h1 := pow8_le k 4 hk
          have h2 : (2 : Int) ^ (8 * 4) = 4294967296 := by decide
          omega
        generalize ys.getD k 0 = c at *
        generalize val (ys.take k) = v at *
        clear hrd hv hlk
        go_wp2
        go_round
        case rel => exact ⟨k + 1, by omega, by go_num, by rw [HK.out, HV.out, HO.out]⟩
        case measure => simp [intOf]; omega
      · obtain rfl : k = 4 := by omega
        rw [List.take_of_length_le (by rw [HD.out]; exact Nat.le_refl _)]
        go_wp2_with (go_at_call 19; refine (HA.out _ (HT.out _)).mono ?_; rintro e w' ⟨rfl, rfl⟩)
        go_ret
        exact ⟨ret_bool HR.out, _, rfl⟩
end Go.Proofs.Ytaeekopdfaocoaa

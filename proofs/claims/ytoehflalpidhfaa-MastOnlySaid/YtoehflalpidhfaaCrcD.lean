/-
  What the document's answers for package crc do: bits, Sum, Seal.
-/
import Derived.Test.YtoehflalpidhfaaCrcC
import Derived.Test.YtoehflalpidhfaaSame
import Derived.StillTailTactics
namespace Go.Proofs.Ytoehflalpidhfaa
open Go.RowKit Word Crc
set_option linter.unusedVariables false

def bools (l : List Bool) : List Value := l.map Value.bool
theorem bools_length (l : List Bool) : (bools l).length = l.length := by simp [bools]
theorem bools_append (a b : List Bool) : bools (a ++ b) = bools a ++ bools b := List.map_append
theorem bools_get {l : List Bool} {k : Nat} (h : k < l.length) : (bools l)[k]? = some (.bool (l.getD k false)) := by simp [bools, h]
theorem bools_set (l : List Bool) (j : Nat) (b : Bool) : bools (l.set j b) = (bools l).set j (.bool b) := by simp [bools, List.map_set]
theorem bools_one (l : List Bool) : ∀ u ∈ bools l, u.oneCell' = true := by intro u hu; obtain ⟨b, _, rfl⟩ := List.mem_map.1 hu; rfl

/-- the bits of a byte, the lowest first: n of them -/
def lows : Nat → Int → List Bool
  | 0, _ => []
  | n + 1, x => (x % 2 == 1) :: lows n (x / 2)
def bitsOf (zs : List Int) : List Bool := zs.flatMap (lows 8)
theorem lows_length (n : Nat) (x : Int) : (lows n x).length = n := by
  induction n generalizing x with
  | zero => rfl
  | succ n ih => simp [lows, ih]
theorem lows_snoc (n : Nat) (x : Int) : lows (n + 1) x = lows n x ++ [x / 2 ^ n % 2 == 1] := by
  induction n generalizing x with
  | zero => simp [lows]
  | succ n ih =>
    rw [lows, ih, lows]
    have e : x / 2 / 2 ^ n = x / 2 ^ (n + 1) := by rw [Int.ediv_ediv_of_nonneg (by decide), Int.pow_succ, Int.mul_comm]
    rw [e]
    rfl
theorem bitsOf_snoc (zs : List Int) (c : Int) : bitsOf (zs ++ [c]) = bitsOf zs ++ lows 8 c := by simp [bitsOf]
theorem bitsOf_length (zs : List Int) : (bitsOf zs).length = 8 * zs.length := by
  induction zs with
  | nil => rfl
  | cons z zs ih => simp only [bitsOf, List.flatMap_cons, List.length_append, lows_length, List.length_cons] at *; omega

theorem elemB : Elem Try.prog 85 4 (.bool false) 1 1 := .of Try.underlying85 (by kernel_rfl) rfl (by omega)

set_option maxHeartbeats 400000 in
theorem rbits_any (A : Option Addr) (len cap : Nat) (zs : List Int) (w : World) (hl : len ≤ 65536) (hlen : zs.length = len) (hb : octets zs) (hr : Rd w w.heap.size A (bs zs)) :
    Calls Try.prog 52 #[.slice A len cap] w fun e w' => ∃ A' c', e = .returned (.slice A' (8 * len) c') ∧
      w'.ownsRow w.heap.size 4 1 (.slice A' (8 * len) c') (8 * len) (bools (bitsOf zs)) ∧ Below w.heap.size w w' := by
  have HL := Lib.hid hlen
  clear hlen
  go_enter Try.func52, Try.ntmps52
  go_wp2
  go_loopw [3, 4] (fun o i wr => ∃ k : Nat, k ≤ len ∧ i = .int .i64 k ∧ wr.ownsRow w.heap.size 4 1 o (8 * k) (bools (bitsOf (zs.take k))) ∧ Below w.heap.size w wr) (fun _ i _ => len - (intOf i).toNat)
  case atStart => exact ⟨0, by omega, rfl, by simpa [bools, bitsOf] using World.ownsRow_nil _ _ _ _, Below.refl _ _⟩
  case round =>
    obtain ⟨k, hk, rfl, hown, hbl⟩ := hrel
    by_cases hlt : k < len
    · obtain ⟨ad, rfl, _, hc⟩ := (hr.below hbl).at (bs_get (k := k) (by rw [HL.out]; omega))
      have HK := Lib.hid (show bitsOf (zs.take (k + 1)) = bitsOf (zs.take k) ++ lows 8 (zs.getD k 0) by
        rw [List.take_succ_eq_append_getElem (by rw [HL.out]; omega), bitsOf_snoc]; simp [HL.out, hlt])
      have h0 := (octets_getD hb k).1
      have h1 := (octets_getD hb k).2
      generalize zs.getD k 0 = c at *
      go_wp2
      go_loopw [3, 5, 6] (fun o x i wr => ∃ j : Nat, j ≤ 8 ∧ i = .int .i64 j ∧ x = .int .i64 (c / 2 ^ j) ∧ wr.ownsRow w.heap.size 4 1 o (8 * k + j) (bools (bitsOf (zs.take k) ++ lows j c)) ∧ Below w.heap.size w wr) (fun _ _ i _ => 8 - (intOf i).toNat)
      case atStart => exact ⟨0, by omega, rfl, by simp, by simpa [lows] using hown, hbl⟩
      case round =>
        obtain ⟨j, hj, rfl, rfl, hown, hbl⟩ := hrel
        clear hr hc
        by_cases hj8 : j < 8
        · have HP := Lib.hid (show bools (bitsOf (zs.take k) ++ lows (j + 1) c) = bools (bitsOf (zs.take k) ++ lows j c) ++ [.bool (c / 2 ^ j % 2 == 1)] by
            rw [lows_snoc, ← List.append_assoc, bools_append _ [_]]; rfl)
          have hy : 0 ≤ c / 2 ^ j := Int.ediv_nonneg h0 (Int.pow_nonneg (by decide))
          have hy2 : c / 2 ^ j ≤ 255 := Int.le_trans (Int.ediv_le_self _ h0) h1
          have HQ := Lib.hid (show c / 2 ^ (j + 1) = c / 2 ^ j / 2 by rw [Int.pow_succ, Int.ediv_ediv_of_nonneg (Int.pow_nonneg (by decide))])
          generalize c / 2 ^ j = y at *
          go_wp2_with (at_builtin; go_loud (refine wpList_append_one _ rfl _ _ _ rfl w.heap.size 4 _ 1 elemB u3 (8 * k + j) _ rfl _ rfl hown rfl (by simp only [maxLen]; omega) (by omega) hbl.size ?_); intro v1 w1 hown1 hg1)
          go_roundw
          case rel => exact ⟨j + 1, by omega, by go_num, by rw [HQ.out], by rw [HP.out]; exact hown1, hbl.grown hg1 hbl.size fun g hg => (hown.lt g hg).1⟩
          case measure => simp [intOf]; omega
        · obtain rfl : j = 8 := by omega
          go_wp2
          go_roundw
          case rel => exact ⟨k + 1, by omega, by go_num, by rw [HK.out]; exact hown, hbl⟩
          case measure => simp [intOf]; omega
    · obtain rfl : len = k := by omega
      rw [List.take_of_length_le (by rw [HL.out]; exact Nat.le_refl _)] at hown
      obtain ⟨A', c', hv⟩ := own_slice hown
      rw [hv] at hown ⊢
      clear hv
      go_wp2
      go_ret
      exact ⟨A', c', rfl, hown, hbl⟩

/-! the register as 32 truths -/
def tab (f : Nat → Bool) : List Bool := (List.range 32).map f
theorem tab_length (f : Nat → Bool) : (tab f).length = 32 := by simp [tab]
theorem tab_getD (f : Nat → Bool) {k : Nat} (h : k < 32) : (tab f).getD k false = f k := by simp [tab, List.getD_eq_getElem?_getD, h]
theorem tab_congr {f g : Nat → Bool} (h : ∀ j, j < 32 → f j = g j) : tab f = tab g := List.map_congr_left fun j hj => h j (List.mem_range.1 hj)
theorem tab_set (f : Nat → Bool) (k : Nat) (v : Bool) : (tab f).set k v = tab fun j => if j = k then v else f j := by
  apply List.ext_getElem?
  intro i
  rw [List.getElem?_set]
  simp only [tab, List.getElem?_map, List.length_map, List.length_range]
  by_cases hi : k = i
  · subst hi
    by_cases h : k < 32 <;> simp [h]
  · by_cases h : i < 32 <;> simp [h, hi, Ne.symm hi]
theorem bools_tab {f : Nat → Bool} {k : Nat} (h : k < 32) : (bools (tab f))[k]? = some (.bool (f k)) := by
  rw [bools_get (by rw [tab_length]; exact h), tab_getD f h]

def bitstep (r : Nat) (b : Bool) : Nat := Crc.step (r ^^^ b.toNat)
def bitrun (r : Nat) (l : List Bool) : Nat := l.foldl bitstep r
theorem bitrun_snoc (r : Nat) (l : List Bool) (b : Bool) : bitrun r (l ++ [b]) = bitstep (bitrun r l) b := by simp [bitrun]
theorem bitrun_append (r : Nat) (l m : List Bool) : bitrun r (l ++ m) = bitrun (bitrun r l) m := List.foldl_append
theorem bit_lt (b : Bool) : b.toNat < 2 := by cases b <;> decide
theorem bitstep_lt {r : Nat} (h : r < 4294967296) (b : Bool) : bitstep r b < 4294967296 := step_lt (xor_lt h (by have := bit_lt b; omega))
theorem bitrun_lt {r : Nat} (h : r < 4294967296) (l : List Bool) : bitrun r l < 4294967296 := by
  induction l generalizing r with
  | nil => exact h
  | cons b l ih => exact ih (bitstep_lt h b)
theorem low_bit (a n : Nat) : ((a : Int) / 2 ^ n % 2 == 1) = a.testBit n := by
  rw [Nat.testBit_eq_decide_div_mod_eq, show ((2 : Int) ^ n) = ((2 ^ n : Nat) : Int) from by simp]
  generalize 2 ^ n = p
  by_cases h : a / p % 2 = 1
  · simp [h]; omega
  · simp [h]; omega
theorem mod_bit (a n : Nat) : a % 2 ^ n ^^^ 2 ^ n * (a.testBit n).toNat = a % 2 ^ (n + 1) := by
  apply Nat.eq_of_testBit_eq
  intro i
  rw [Nat.testBit_xor, Nat.testBit_mod_two_pow, Nat.testBit_mod_two_pow, Nat.testBit_two_pow_mul]
  by_cases h1 : i < n
  · simp [h1, Nat.lt_succ_of_lt h1, Nat.not_le.2 h1]
  · by_cases h2 : i = n
    · subst h2
      cases h : a.testBit i <;> simp
    · have h3 : ¬ i < n + 1 := by omega
      have h4 : (a.testBit n).toNat.testBit (i - n) = false := Nat.testBit_lt_two_pow (Nat.lt_of_lt_of_le (bit_lt _) (Nat.pow_le_pow_right (n := 2) (by decide) (show 1 ≤ i - n by omega)))
      simp [h1, h3, h4]
theorem bitrun_lows (r a : Nat) (n : Nat) : bitrun r (lows n a) = steps n (r ^^^ (a % 2 ^ n)) := by
  induction n with
  | zero => simp [lows, bitrun, steps, Nat.mod_one]
  | succ n ih =>
    rw [lows_snoc, bitrun_snoc, ih, low_bit, bitstep, ← mod_bit, ← Nat.xor_assoc, Crc.steps, steps_xor n (r ^^^ a % 2 ^ n), steps_shift]
theorem bitrun_byte {r : Nat} {c : Int} (h : 0 ≤ c ∧ c ≤ 255) : bitrun r (lows 8 c) = byte r c := by
  obtain ⟨a, rfl⟩ := Int.eq_ofNat_of_zero_le h.1
  rw [bitrun_lows, Nat.mod_eq_of_lt (show a < 2 ^ 8 by omega)]
  rfl
theorem bitrun_bits {zs : List Int} (hb : octets zs) (r : Nat) : bitrun r (bitsOf zs) = run r zs := by
  induction zs generalizing r with
  | nil => rfl
  | cons z zs ih =>
    have hz := hb z List.mem_cons_self
    show bitrun r (lows 8 z ++ bitsOf zs) = run (byte r z) zs
    rw [bitrun_append, bitrun_byte hz]
    exact ih (fun y hy => hb y (List.mem_cons_of_mem _ hy)) _

/-- the polynomial, the highest first -/
def polyL : List Bool := [true, true, true, false, true, true, false, true, true, false, true, true, true, false, false, false, true, false, false, false, false, false, true, true, false, false, true, false, false, false, false, false]
theorem poly_bit : ∀ j, j < 32 → polyL.getD (31 - j) false = poly.testBit j := by decide

/-- the register in the midst of a shift, and of a turn -/
def shiftAt (r k : Nat) : List Bool := tab fun j => if j < k then r.testBit (j + 1) else r.testBit j
def turnAt (r k : Nat) : List Bool := tab fun j => if j < k then (r.testBit j != poly.testBit j) else r.testBit j
theorem shift_zero (r : Nat) : shiftAt r 0 = tab r.testBit := tab_congr fun j _ => by simp
theorem shift_succ (r k : Nat) : (shiftAt r k).set k (r.testBit (k + 1)) = shiftAt r (k + 1) := by
  unfold shiftAt
  rw [tab_set]
  apply tab_congr
  intro j _
  by_cases h : j = k
  · subst h; simp
  · by_cases h2 : j < k
    · simp [h, h2, Nat.lt_succ_of_lt h2]
    · simp [h, h2, show ¬ j < k + 1 by omega]
theorem shift_all {r : Nat} (hr : r < 4294967296) : (shiftAt r 31).set 31 false = tab (r / 2).testBit := by
  unfold shiftAt
  rw [tab_set]
  apply tab_congr
  intro j hj
  rw [Nat.testBit_div_two]
  by_cases h : j = 31
  · subst h
    have := Nat.testBit_lt_two_pow (x := r) (i := 32) hr
    simp [this]
  · simp [h, show j < 31 by omega]
theorem turn_zero (r : Nat) : turnAt r 0 = tab r.testBit := tab_congr fun j _ => by simp
theorem turn_succ (r k : Nat) (hk : k < 32) : (turnAt r k).set k (r.testBit k != polyL.getD (31 - k) false) = turnAt r (k + 1) := by
  rw [poly_bit k hk]
  unfold turnAt
  rw [tab_set]
  apply tab_congr
  intro j _
  by_cases h : j = k
  · subst h; simp
  · by_cases h2 : j < k
    · simp [h, h2, Nat.lt_succ_of_lt h2]
    · simp [h, h2, show ¬ j < k + 1 by omega]
theorem turn_all (r : Nat) : turnAt r 32 = tab (r ^^^ poly).testBit := by
  unfold turnAt
  apply tab_congr
  intro j hj
  rw [if_pos hj, Nat.testBit_xor]
theorem bitstep_off {r : Nat} {b : Bool} (h : (r.testBit 0 != b) = false) : bitstep r b = r / 2 := by
  unfold bitstep Crc.step
  have h0 : r.testBit 0 = b := by simpa using h
  have h1 : (r ^^^ b.toNat) % 2 = 0 := by
    rw [xor_mod2]
    rw [Nat.testBit_zero] at h0
    cases b <;> simp at h0 <;> simp <;> omega
  rw [if_neg (by omega), xor_div2, show b.toNat / 2 = 0 from by cases b <;> rfl, Nat.xor_zero]
theorem bitstep_on {r : Nat} {b : Bool} (h : (r.testBit 0 != b) = true) : bitstep r b = (r / 2) ^^^ poly := by
  unfold bitstep Crc.step
  have h0 : r.testBit 0 ≠ b := by simpa using h
  have h1 : (r ^^^ b.toNat) % 2 = 1 := by
    rw [xor_mod2]
    rw [Nat.testBit_zero] at h0
    cases b <;> simp at h0 <;> simp <;> omega
  rw [if_pos h1, xor_div2, show b.toNat / 2 = 0 from by cases b <;> rfl, Nat.xor_zero]
theorem full_tab : tab full.testBit = List.replicate 32 true := by decide
theorem inv_shift (r k : Nat) (hr : r < 4294967296) (hk : k < 32) : inv r / 2 ^ k = 2 * (inv r / 2 ^ (k + 1)) + (!r.testBit k).toNat := by
  have h1 : (inv r).testBit k = !r.testBit k := by
    unfold inv
    rw [Nat.testBit_xor, show full = 2 ^ 32 - 1 from rfl, Nat.testBit_two_pow_sub_one]
    simp [hk]
  rw [← h1, Nat.testBit_eq_decide_div_mod_eq, Nat.pow_succ, ← Nat.div_div_eq_div_mul]
  generalize inv r / 2 ^ k = x
  by_cases h : x % 2 = 1
  · simp [h]; omega
  · simp [h]; omega
end Go.Proofs.Ytoehflalpidhfaa

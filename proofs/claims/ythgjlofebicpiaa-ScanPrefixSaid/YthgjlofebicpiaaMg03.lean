/-
  Same CrcD CrcE
-/
import Derived.Test.YthgjlofebicpiaaMg01
import Derived.Test.YthgjlofebicpiaaMg02
import Derived.StillTailTactics
import Derived.RegionTactic
import Derived.ChangeAlike
/-
  'Same' of the first layer's answers: are two lists of bytes one?
-/
namespace Go.Proofs.Ythgjlofebicpiaa
open Go.RowKit Word

end Go.Proofs.Ythgjlofebicpiaa

/-
  What the document's answers for package crc do: bits, Sum, Seal.
-/
namespace Go.Proofs.Ythgjlofebicpiaa
open Go.RowKit Word Crc
set_option linter.unusedVariables false

def bools (l : List Bool) : List Value := l.map Value.bool
theorem bools_length (l : List Bool) : (bools l).length = l.length := by simp [bools]
theorem bools_append (a b : List Bool) : bools (a ++ b) = bools a ++ bools b := List.map_append
theorem bools_get {l : List Bool} {k : Nat} (h : k < l.length) : (bools l)[k]? = some (.bool (l.getD k false)) := by simp [bools, h]
theorem bools_set (l : List Bool) (j : Nat) (b : Bool) : bools (l.set j b) = (bools l).set j (.bool b) := by simp [bools, List.map_set]
theorem bools_one (l : List Bool) : ∀ u ∈ bools l, u.oneCell' = true := by intro u hu; obtain ⟨b, _, rfl⟩ := List.mem_map.1 hu; rfl

/-- the bits of a byte, the lowest first: n of them -/
def lows : Nat → Int → List Bool
  | 0, _ => []
  | n + 1, x => (x % 2 == 1) :: lows n (x / 2)
def bitsOf (zs : List Int) : List Bool := zs.flatMap (lows 8)
theorem lows_length (n : Nat) (x : Int) : (lows n x).length = n := by
  induction n generalizing x with
  | zero => rfl
  | succ n ih => simp [lows, ih]
theorem lows_snoc (n : Nat) (x : Int) : lows (n + 1) x = lows n x ++ [x / 2 ^ n % 2 == 1] := by
  induction n generalizing x with
  | zero => simp [lows]
  | succ n ih =>
    rw [lows, ih, lows]
    have e : x / 2 / 2 ^ n = x / 2 ^ (n + 1) := by rw [Int.ediv_ediv_of_nonneg (by decide), Int.pow_succ, Int.mul_comm]
    rw [e]
    rfl
theorem bitsOf_snoc (zs : List Int) (c : Int) : bitsOf (zs ++ [c]) = bitsOf zs ++ lows 8 c := by simp [bitsOf]
theorem bitsOf_length (zs : List Int) : (bitsOf zs).length = 8 * zs.length := by
  induction zs with
  | nil => rfl
  | cons z zs ih => simp only [bitsOf, List.flatMap_cons, List.length_append, lows_length, List.length_cons] at *; omega

theorem elemB : Elem Try.prog 137 4 (.bool false) 1 1 := .of Try.underlying137 (by kernel_rfl) rfl (by omega)

set_option maxHeartbeats 400000 in
theorem rbits_any (A : Option Addr) (len cap : Nat) (zs : List Int) (w : World) (hl : len ≤ 65536) (hlen : zs.length = len) (hb : octets zs) (hr : Rd w w.heap.size A (bs zs)) :
    Calls Try.prog 89 #[.slice A len cap] w fun e w' => ∃ A' c', e = .returned (.slice A' (8 * len) c') ∧
      w'.ownsRow w.heap.size 4 1 (.slice A' (8 * len) c') (8 * len) (bools (bitsOf zs)) ∧ Below w.heap.size w w' := by
  have HL := Lib.hid hlen
  clear hlen
  go_enter Try.func89, Try.ntmps89
  go_wp2
  go_loopw [3, 4] (fun o i wr => ∃ k : Nat, k ≤ len ∧ i = .int .i64 k ∧ wr.ownsRow w.heap.size 4 1 o (8 * k) (bools (bitsOf (zs.take k))) ∧ Below w.heap.size w wr) (fun _ i _ => len - (intOf i).toNat)
  case atStart => exact ⟨0, by omega, rfl, by simpa [bools, bitsOf] using World.ownsRow_nil _ _ _ _, Below.refl _ _⟩
  case round =>
    obtain ⟨k, hk, rfl, hown, hbl⟩ := hrel
    by_cases hlt : k < len
    · obtain ⟨ad, rfl, _, hc⟩ := (hr.below hbl).at (bs_get (k := k) (by rw [HL.out]; omega))
      have HK := Lib.hid (show bitsOf (zs.take (k + 1)) = bitsOf (zs.take k) ++ lows 8 (zs.getD k 0) by
        rw [List.take_succ_eq_append_getElem (by rw [HL.out]; omega), bitsOf_snoc]; simp [HL.out, hlt])
      have h0 := (octets_getD hb k).1
      have h1 := (octets_getD hb k).2
      generalize zs.getD k 0 = c at *
      go_wp2
      go_loopw [3, 5, 6] (fun o x i wr => ∃ j : Nat, j ≤ 8 ∧ i = .int .i64 j ∧ x = .int .i64 (c / 2 ^ j) ∧ wr.ownsRow w.heap.size 4 1 o (8 * k + j) (bools (bitsOf (zs.take k) ++ lows j c)) ∧ Below w.heap.size w wr) (fun _ _ i _ => 8 - (intOf i).toNat)
      case atStart => exact ⟨0, by omega, rfl, by simp, by simpa [lows] using hown, hbl⟩
      case round =>
        obtain ⟨j, hj, rfl, rfl, hown, hbl⟩ := hrel
        clear hr hc
        by_cases hj8 : j < 8
        · have HP := Lib.hid (show bools (bitsOf (zs.take k) ++ lows (j + 1) c) = bools (bitsOf (zs.take k) ++ lows j c) ++ [.bool (c / 2 ^ j % 2 == 1)] by
            rw [lows_snoc, ← List.append_assoc, bools_append _ [_]]; rfl)
          have hy : 0 ≤ c / 2 ^ j := Int.ediv_nonneg h0 (Int.pow_nonneg (by decide))
          have hy2 : c / 2 ^ j ≤ 255 := Int.le_trans (Int.ediv_le_self _ h0) h1
          have HQ := Lib.hid (show c / 2 ^ (j + 1) = c / 2 ^ j / 2 by rw [Int.pow_succ, Int.ediv_ediv_of_nonneg (Int.pow_nonneg (by decide))])
          generalize c / 2 ^ j = y at *
          go_wp2_with (at_builtin; go_loud (refine wpList_append_one _ rfl _ _ _ rfl w.heap.size 4 _ 1 elemB u3 (8 * k + j) _ rfl _ rfl hown rfl (by simp only [maxLen]; omega) (by omega) hbl.size ?_); intro v1 w1 hown1 hg1)
          go_roundw
          case rel => exact ⟨j + 1, by omega, by go_num, by rw [HQ.out], by rw [HP.out]; exact hown1, hbl.grown hg1 hbl.size fun g hg => (hown.lt g hg).1⟩
          case measure => simp [intOf]; omega
        · obtain rfl : j = 8 := by omega
          go_wp2
          go_roundw
          case rel => exact ⟨k + 1, by omega, by go_num, by rw [HK.out]; exact hown, hbl⟩
          case measure => simp [intOf]; omega
    · obtain rfl : len = k := by omega
      rw [List.take_of_length_le (by rw [HL.out]; exact Nat.le_refl _)] at hown
      obtain ⟨A', c', hv⟩ := own_slice hown
      rw [hv] at hown ⊢
      clear hv
      go_wp2
      go_ret
      exact ⟨A', c', rfl, hown, hbl⟩

/-! the register as 32 truths -/
def tab (f : Nat → Bool) : List Bool := (List.range 32).map f
theorem tab_length (f : Nat → Bool) : (tab f).length = 32 := by simp [tab]
theorem tab_getD (f : Nat → Bool) {k : Nat} (h : k < 32) : (tab f).getD k false = f k := by simp [tab, List.getD_eq_getElem?_getD, h]
theorem tab_congr {f g : Nat → Bool} (h : ∀ j, j < 32 → f j = g j) : tab f = tab g := List.map_congr_left fun j hj => h j (List.mem_range.1 hj)
theorem tab_set (f : Nat → Bool) (k : Nat) (v : Bool) : (tab f).set k v = tab fun j => if j = k then v else f j := by
  apply List.ext_getElem?
  intro i
  rw [List.getElem?_set]
  simp only [tab, List.getElem?_map, List.length_map, List.length_range]
  by_cases hi : k = i
  · subst hi
    by_cases h : k < 32 <;> simp [h]
  · by_cases h : i < 32 <;> simp [h, hi, Ne.symm hi]
theorem bools_tab {f : Nat → Bool} {k : Nat} (h : k < 32) : (bools (tab f))[k]? = some (.bool (f k)) := by
  rw [bools_get (by rw [tab_length]; exact h), tab_getD f h]

def bitstep (r : Nat) (b : Bool) : Nat := Crc.step (r ^^^ b.toNat)
def bitrun (r : Nat) (l : List Bool) : Nat := l.foldl bitstep r
theorem bitrun_snoc (r : Nat) (l : List Bool) (b : Bool) : bitrun r (l ++ [b]) = bitstep (bitrun r l) b := by simp [bitrun]
theorem bitrun_append (r : Nat) (l m : List Bool) : bitrun r (l ++ m) = bitrun (bitrun r l) m := List.foldl_append
theorem bit_lt (b : Bool) : b.toNat < 2 := by cases b <;> decide
theorem bitstep_lt {r : Nat} (h : r < 4294967296) (b : Bool) : bitstep r b < 4294967296 := step_lt (xor_lt h (by have := bit_lt b; omega))
theorem bitrun_lt {r : Nat} (h : r < 4294967296) (l : List Bool) : bitrun r l < 4294967296 := by
  induction l generalizing r with
  | nil => exact h
  | cons b l ih => exact ih (bitstep_lt h b)
theorem low_bit (a n : Nat) : ((a : Int) / 2 ^ n % 2 == 1) = a.testBit n := by
  rw [Nat.testBit_eq_decide_div_mod_eq, show ((2 : Int) ^ n) = ((2 ^ n : Nat) : Int) from by simp]
  generalize 2 ^ n = p
  by_cases h : a / p % 2 = 1
  · simp [h]; omega
  · simp [h]; omega
theorem mod_bit (a n : Nat) : a % 2 ^ n ^^^ 2 ^ n * (a.testBit n).toNat = a % 2 ^ (n + 1) := by
  apply Nat.eq_of_testBit_eq
  intro i
  rw [Nat.testBit_xor, Nat.testBit_mod_two_pow, Nat.testBit_mod_two_pow, Nat.testBit_two_pow_mul]
  by_cases h1 : i < n
  · simp [h1, Nat.lt_succ_of_lt h1, Nat.not_le.2 h1]
  · by_cases h2 : i = n
    · subst h2
      cases h : a.testBit i <;> simp
    · have h3 : ¬ i < n + 1 := by omega
      have h4 : (a.testBit n).toNat.testBit (i - n) = false := Nat.testBit_lt_two_pow (Nat.lt_of_lt_of_le (bit_lt _) (Nat.pow_le_pow_right (n := 2) (by decide) (show 1 ≤ i - n by omega)))
      simp [h1, h3, h4]
theorem bitrun_lows (r a : Nat) (n : Nat) : bitrun r (lows n a) = steps n (r ^^^ (a % 2 ^ n)) := by
  induction n with
  | zero => simp [lows, bitrun, steps, Nat.mod_one]
  | succ n ih =>
    rw [lows_snoc, bitrun_snoc, ih, low_bit, bitstep, ← mod_bit, ← Nat.xor_assoc, Crc.steps, steps_xor n (r ^^^ a % 2 ^ n), steps_shift]
theorem bitrun_byte {r : Nat} {c : Int} (h : 0 ≤ c ∧ c ≤ 255) : bitrun r (lows 8 c) = byte r c := by
  obtain ⟨a, rfl⟩ := Int.eq_ofNat_of_zero_le h.1
  rw [bitrun_lows, Nat.mod_eq_of_lt (show a < 2 ^ 8 by omega)]
  rfl
theorem bitrun_bits {zs : List Int} (hb : octets zs) (r : Nat) : bitrun r (bitsOf zs) = run r zs := by
  induction zs generalizing r with
  | nil => rfl
  | cons z zs ih =>
    have hz := hb z List.mem_cons_self
    show bitrun r (lows 8 z ++ bitsOf zs) = run (byte r z) zs
    rw [bitrun_append, bitrun_byte hz]
    exact ih (fun y hy => hb y (List.mem_cons_of_mem _ hy)) _

/-- the polynomial, the highest first -/
def polyL : List Bool := [true, true, true, false, true, true, false, true, true, false, true, true, true, false, false, false, true, false, false, false, false, false, true, true, false, false, true, false, false, false, false, false]
theorem poly_bit : ∀ j, j < 32 → polyL.getD (31 - j) false = poly.testBit j := by decide

/-- the register in the midst of a shift, and of a turn -/
def shiftAt (r k : Nat) : List Bool := tab fun j => if j < k then r.testBit (j + 1) else r.testBit j
def turnAt (r k : Nat) : List Bool := tab fun j => if j < k then (r.testBit j != poly.testBit j) else r.testBit j
theorem shift_zero (r : Nat) : shiftAt r 0 = tab r.testBit := tab_congr fun j _ => by simp
theorem shift_succ (r k : Nat) : (shiftAt r k).set k (r.testBit (k + 1)) = shiftAt r (k + 1) := by
  unfold shiftAt
  rw [tab_set]
  apply tab_congr
  intro j _
  by_cases h : j = k
  · subst h; simp
  · by_cases h2 : j < k
    · simp [h, h2, Nat.lt_succ_of_lt h2]
    · simp [h, h2, show ¬ j < k + 1 by omega]
theorem shift_all {r : Nat} (hr : r < 4294967296) : (shiftAt r 31).set 31 false = tab (r / 2).testBit := by
  unfold shiftAt
  rw [tab_set]
  apply tab_congr
  intro j hj
  rw [Nat.testBit_div_two]
  by_cases h : j = 31
  · subst h
    have := Nat.testBit_lt_two_pow (x := r) (i := 32) hr
    simp [this]
  · simp [h, show j < 31 by omega]
theorem turn_zero (r : Nat) : turnAt r 0 = tab r.testBit := tab_congr fun j _ => by simp
theorem turn_succ (r k : Nat) (hk : k < 32) : (turnAt r k).set k (r.testBit k != polyL.getD (31 - k) false) = turnAt r (k + 1) := by
  rw [poly_bit k hk]
  unfold turnAt
  rw [tab_set]
  apply tab_congr
  intro j _
  by_cases h : j = k
  · subst h; simp
  · by_cases h2 : j < k
    · simp [h, h2, Nat.lt_succ_of_lt h2]
    · simp [h, h2, show ¬ j < k + 1 by omega]
theorem turn_all (r : Nat) : turnAt r 32 = tab (r ^^^ poly).testBit := by
  unfold turnAt
  apply tab_congr
  intro j hj
  rw [if_pos hj, Nat.testBit_xor]
theorem bitstep_off {r : Nat} {b : Bool} (h : (r.testBit 0 != b) = false) : bitstep r b = r / 2 := by
  unfold bitstep Crc.step
  have h0 : r.testBit 0 = b := by simpa using h
  have h1 : (r ^^^ b.toNat) % 2 = 0 := by
    rw [xor_mod2]
    rw [Nat.testBit_zero] at h0
    cases b <;> simp at h0 <;> simp <;> omega
  rw [if_neg (by omega), xor_div2, show b.toNat / 2 = 0 from by cases b <;> rfl, Nat.xor_zero]
theorem bitstep_on {r : Nat} {b : Bool} (h : (r.testBit 0 != b) = true) : bitstep r b = (r / 2) ^^^ poly := by
  unfold bitstep Crc.step
  have h0 : r.testBit 0 ≠ b := by simpa using h
  have h1 : (r ^^^ b.toNat) % 2 = 1 := by
    rw [xor_mod2]
    rw [Nat.testBit_zero] at h0
    cases b <;> simp at h0 <;> simp <;> omega
  rw [if_pos h1, xor_div2, show b.toNat / 2 = 0 from by cases b <;> rfl, Nat.xor_zero]
theorem full_tab : tab full.testBit = List.replicate 32 true := by decide
theorem inv_shift (r k : Nat) (hr : r < 4294967296) (hk : k < 32) : inv r / 2 ^ k = 2 * (inv r / 2 ^ (k + 1)) + (!r.testBit k).toNat := by
  have h1 : (inv r).testBit k = !r.testBit k := by
    unfold inv
    rw [Nat.testBit_xor, show full = 2 ^ 32 - 1 from rfl, Nat.testBit_two_pow_sub_one]
    simp [hk]
  rw [← h1, Nat.testBit_eq_decide_div_mod_eq, Nat.pow_succ, ← Nat.div_div_eq_div_mul]
  generalize inv r / 2 ^ k = x
  by_cases h : x % 2 = 1
  · simp [h]; omega
  · simp [h]; omega
end Go.Proofs.Ythgjlofebicpiaa

/-
  What the document's answers for package crc do: Sum, Seal.
-/
namespace Go.Proofs.Ythgjlofebicpiaa
open Go.RowKit Word Crc
set_option linter.unusedVariables false

/-- the two arrays, the bits, and what was there ahead -/
structure RegSt (w wr : World) (B : Nat) (V : Value) (n : Nat) (l reg : List Bool) : Prop where
  poly : wr.ownsRow w.heap.size 136 1 (.slice (some ⟨w.heap.size, 0, none⟩) 32 32) 32 (bools polyL)
  reg : wr.ownsRow w.heap.size 136 1 (.slice (some ⟨w.heap.size + 1, 0, none⟩) 32 32) 32 (bools reg)
  bits : wr.ownsRow B 4 1 V n (bools l)
  far : w.heap.size + 2 ≤ B
  below : Below w.heap.size w wr
  size : B ≤ wr.heap.size
theorem RegSt.drewN {w wr : World} {B : Nat} {V : Value} {n : Nat} {l reg : List Bool} (h : RegSt w wr B V n l reg) (q : Nat) : RegSt w (wr.drewN q) B V n l reg := ⟨h.poly, h.reg, h.bits, h.far, below_draws h.below q, h.size⟩
theorem RegSt.drew {w wr : World} {B : Nat} {V : Value} {n : Nat} {l reg : List Bool} (h : RegSt w wr B V n l reg) : RegSt w wr.drew B V n l reg := h.drewN 1
theorem RegSt.store {w wr : World} {B : Nat} {V : Value} {n : Nat} {l reg : List Bool} (h : RegSt w wr B V n l reg) (j : Nat) (b : Bool) : RegSt w (wr.setCell ⟨w.heap.size + 1, j, none⟩ (.bool b)) B V n l (reg.set j b) := by
  have h1 := h.reg.stored j (.bool b)
  have h2 := h.far
  exact ⟨own_grown h.poly h1.2 (by omega), by rw [bools_set]; exact h1.1, own_store h.bits h1.2 (by omega), h.far, below_stored h.below h1.2 h.below.size (by omega), Nat.le_trans h.size h1.2.size⟩
theorem RegSt.cell {w wr : World} {B : Nat} {V : Value} {n : Nat} {l : List Bool} {f : Nat → Bool} (h : RegSt w wr B V n l (tab f)) {j : Nat} (hj : j < 32) : wr.cell? ⟨w.heap.size + 1, j, none⟩ = some (.bool (f j)) := by
  rw [h.reg.cellAt j (by omega), bools_tab hj]
theorem RegSt.polyCell {w wr : World} {B : Nat} {V : Value} {n : Nat} {l reg : List Bool} (h : RegSt w wr B V n l reg) {j : Nat} (hj : j < 32) : wr.cell? ⟨w.heap.size, j, none⟩ = some (.bool (polyL.getD j false)) := by
  rw [h.poly.cellAt j (by omega), bools_get (by simpa [polyL] using hj)]

theorem init_succ (k : Nat) : (tab fun j => decide (j < k)).set k true = tab fun j => decide (j < k + 1) := by
  rw [tab_set]
  apply tab_congr
  intro j _
  by_cases h : j = k
  · subst h; simp
  · by_cases h2 : j < k
    · simp [h, h2, Nat.lt_succ_of_lt h2]
    · simp [h, h2, show ¬ j < k + 1 by omega]
theorem init_all : (tab fun j => decide (j < 32)) = tab full.testBit := by decide
theorem bitrun_getD {l : List Bool} {i : Nat} (h : i < l.length) (r : Nat) : bitrun r (l.take (i + 1)) = bitstep (bitrun r (l.take i)) (l.getD i false) := by
  rw [List.take_succ_eq_append_getElem h, bitrun_snoc]
  simp [List.getD_eq_getElem?_getD, h]

set_option maxRecDepth 100000 in
set_option maxHeartbeats 2000000 in
theorem rsum_any (A : Option Addr) (len cap : Nat) (zs : List Int) (w : World) (hl : len ≤ 65536) (hlen : zs.length = len) (hb : octets zs) (hr : Rd w w.heap.size A (bs zs)) :
    Calls Try.prog 65 #[.slice A len cap] w fun e w' => e = .returned (.int .u32 (Crc.sum zs : Nat)) ∧ Below w.heap.size w w' := by
  have HBits := Lib.hid fun w hr => rbits_any A len cap zs w hl hlen hb hr
  have HLen := Lib.hid ((bitsOf_length zs).trans (by rw [hlen]))
  have HRun := Lib.hid (show Crc.sum zs = inv (bitrun full (bitsOf zs)) by rw [bitrun_bits hb]; rfl)
  generalize bitsOf zs = l at *
  generalize Crc.sum zs = res at *
  clear hlen
  go_enter Try.func65, Try.ntmps65
  go_wp2_with ((with_reducible refine wpList_store_array (o := ⟨none, .store 136 _ _, _, _, _, _⟩) _ rfl _ _ _ rfl 32 _ _ _ rfl rfl (by kernel_rfl) (by kernel_rfl) (by kernel_rfl) (by decide) (by kernel_rfl) ?_); intro w1 hpoly hb1 hz1)
  have hreg : (w1.alloc (.cells (List.replicate 32 (Value.bool false)).toArray 136)).ownsRow w.heap.size 136 1 (.slice (some ⟨w.heap.size + 1, 0, none⟩) 32 32) 32 (bools (List.replicate 32 false)) := by
    have h := World.ownsRow_lit (base := w.heap.size) (e := 136) (size := 1) w1 (List.replicate 32 (Value.bool false)).toArray 32 (by omega) (by decide) rfl
    rw [hz1] at h
    exact h
  have hst0 : RegSt w (w1.alloc (.cells (List.replicate 32 (Value.bool false)).toArray 136)) (w.heap.size + 2) (.slice none 0 0) 0 [] (tab fun j => decide (j < 0)) :=
    ⟨hpoly.alloc _, hreg, World.ownsRow_nil _ _ _ _, Nat.le_refl _, hb1.alloc (by omega) _, by simp [hz1]⟩
  have HST := Lib.hid hst0
  clear hpoly hreg hst0
  go_loopw [5] (fun i wr => ∃ k : Nat, k ≤ 32 ∧ i = .int .i64 k ∧ RegSt w wr (w.heap.size + 2) (.slice none 0 0) 0 [] (tab fun j => decide (j < k))) (fun i _ => 32 - (intOf i).toNat)
  case atStart => exact ⟨0, by omega, rfl, HST.out⟩
  case round =>
    clear HST hb1 hz1
    obtain ⟨k, hk, rfl, hst⟩ := hrel
    by_cases hlt : k < 32
    · have hc := hst.cell hlt
      have hz := hst.reg.frozenAt k
      have HS := Lib.hid hst
      clear hst
      go_wp2
      go_roundw
      case rel => exact ⟨k + 1, by omega, by go_num, by rw [← init_succ]; exact HS.out.store k true⟩
      case measure => simp [intOf]; omega
    · obtain rfl : k = 32 := by omega
      rw [init_all] at hst
      have HS := Lib.hid hst
      have hsz := hst.size
      have hbl := hst.below
      clear hst
      go_wp2_with (go_at_call 89; refine (HBits.out _ ((hr.below hbl).more hbl.size)).mono ?_; rintro e w3 ⟨A3, c3, rfl, hbits, hb3⟩)
      obtain ⟨B2, hst⟩ : ∃ B2, RegSt w w3 B2 (.slice A3 (8 * len) c3) (8 * len) l (tab full.testBit) :=
        ⟨wr.heap.size, own_below HS.out.poly hb3, own_below HS.out.reg hb3, hbits, hsz, hbl.trans (hb3.mono hbl.size), hb3.size⟩
      have HT := Lib.hid hst
      clear hst hbits
      go_loopw [7] (fun i wq => ∃ k : Nat, k ≤ 8 * len ∧ i = .int .i64 k ∧ RegSt w wq B2 (.slice A3 (8 * len) c3) (8 * len) l (tab (bitrun full (l.take k)).testBit)) (fun i _ => 8 * len - (intOf i).toNat)
      case atStart => exact ⟨0, by omega, rfl, HT.out⟩
      case round =>
        clear HT hb3 HS hsz hbl HBits hr
        obtain ⟨k, hk, rfl, hst⟩ := hrel
        have hrl := bitrun_lt full_lt (l.take k)
        by_cases hlt : k < 8 * len
        · have HN := Lib.hid (bitrun_getD (l := l) (i := k) (by rw [HLen.out]; exact hlt) full)
          have hc0 := hst.cell (j := 0) (by decide)
          obtain ⟨ad, rfl, _, hcb⟩ := (Rd.own hst.bits).at (bools_get (k := k) (by rw [HLen.out]; exact hlt))
          have hz31 := hst.reg.frozenAt 31
          generalize bitrun full (l.take k) = r at *
          generalize l.getD k false = b at *
          have HOn := Lib.hid (bitstep_on (r := r) (b := b))
          have HOff := Lib.hid (bitstep_off (r := r) (b := b))
          generalize r.testBit 0 = t0 at *
          have HS := Lib.hid hst
          clear hst
          obtain ⟨out, hq⟩ : ∃ out, (!(t0 == b)) = out := ⟨_, rfl⟩
          have HQ := Lib.hid (show (t0 != b) = out from hq)
          go_wp2
          go_quiet (fail)
          clear hq hc0 hcb
          go_wp2
          go_loopw [9] (fun i wx => ∃ j : Nat, j ≤ 31 ∧ i = .int .i64 j ∧ RegSt w wx B2 (.slice (some ad) (8 * len) c3) (8 * len) l (shiftAt r j)) (fun i _ => 31 - (intOf i).toNat)
          case atStart => exact ⟨0, by omega, rfl, by rw [shift_zero]; exact HS.out.drewN _⟩
          case round =>
            obtain ⟨j, hj, rfl, hst⟩ := hrel
            by_cases hj31 : j < 31
            · have hc := hst.cell (j := j + 1) (by omega)
              have hcj := hst.cell (j := j) (by omega)
              rw [if_neg (by omega)] at hc hcj
              have hz := hst.reg.frozenAt j
              have HT := Lib.hid hst
              clear hst
              have hjj : (j : Int) + 1 < 32 := by omega
              go_wp2
              go_roundw
              case rel => exact ⟨j + 1, by omega, by go_num, by rw [← shift_succ]; exact HT.out.store j _⟩
              case measure => simp [intOf]; omega
            · obtain rfl : j = 31 := by omega
              have hc := hst.cell (j := 31) (by omega)
              rw [if_neg (by omega)] at hc
              have hz := hst.reg.frozenAt 31
              have hst2 := hst.store 31 false
              rw [shift_all hrl] at hst2
              have HT := Lib.hid hst2
              clear hst hst2
              cases out with
              | false =>
                go_wp2
                go_roundw
                case rel => exact ⟨k + 1, by omega, by go_num, by rw [HN.out, HOff.out HQ.out]; exact HT.out⟩
                case measure => simp [intOf]; omega
              | true =>
                go_wp2
                go_loopw [10] (fun i wx => ∃ j : Nat, j ≤ 32 ∧ i = .int .i64 j ∧ RegSt w wx B2 (.slice (some ad) (8 * len) c3) (8 * len) l (turnAt (r / 2) j)) (fun i _ => 32 - (intOf i).toNat)
                case atStart => exact ⟨0, by omega, rfl, by rw [turn_zero]; exact HT.out⟩
                case round =>
                  clear HT
                  obtain ⟨j, hj, rfl, hst⟩ := hrel
                  by_cases hj32 : j < 32
                  · have hc := hst.cell (j := j) (by omega)
                    rw [if_neg (by omega)] at hc
                    have hcp := hst.polyCell (j := 31 - j) (by omega)
                    have hz := hst.reg.frozenAt j
                    have HT := Lib.hid hst
                    have HU := Lib.hid (turn_succ (r / 2) j hj32)
                    generalize (r / 2).testBit j = t1 at *
                    generalize polyL.getD (31 - j) false = t2 at *
                    clear hst
                    go_wp2
                    go_region
                    go_wp2
                    go_roundw
                    case rel => exact ⟨j + 1, by omega, by go_num, by rw [← HU.out]; exact HT.out.drew.store j _⟩
                    case measure => simp [intOf]; omega
                  · obtain rfl : j = 32 := by omega
                    rw [turn_all] at hst
                    have HT := Lib.hid hst
                    clear hst
                    go_wp2
                    go_roundw
                    case rel => exact ⟨k + 1, by omega, by go_num, by rw [HN.out, HOn.out HQ.out]; exact HT.out⟩
                    case measure => simp [intOf]; omega
        · obtain rfl : k = 8 * len := by omega
          rw [List.take_of_length_le (by rw [HLen.out]; exact Nat.le_refl _)] at hst hrl
          have HR := Lib.hid (show inv (bitrun full l) = res from HRun.out.symm)
          generalize bitrun full l = r at *
          have HS := Lib.hid hst
          have hbl := hst.below
          have hil := inv_lt hrl
          clear hst
          go_wp2
          go_loop [11, 12] (fun t i => ∃ m : Nat, m ≤ 32 ∧ i = .int .i64 ((m : Int) - 1) ∧ t = .int .u32 ((inv r / 2 ^ m : Nat) : Int)) (fun _ i => (intOf i + 1).toNat)
          case atStart => exact ⟨32, by omega, rfl, by rw [Nat.div_eq_of_lt (show inv r < 2 ^ 32 from hil)]; rfl⟩
          case round =>
            obtain ⟨m, hm, rfl, rfl⟩ := hrel
            rcases m with _ | m
            · have hR := HR.out
              simp only [Nat.pow_zero, Nat.div_one]
              rw [hR]
              clear hR
              go_wp2
              go_ret
              exact ⟨rfl, hbl⟩
            · have hc := HS.out.cell (j := m) (by omega)
              have HI := Lib.hid (inv_shift r m hrl (by omega))
              have hb1 : inv r / 2 ^ m ≤ inv r := Nat.div_le_self _ _
              have hb2 : 2 * (inv r / 2 ^ (m + 1)) ≤ inv r / 2 ^ m := by rw [inv_shift r m hrl (by omega)]; omega
              have hx1 : 2 * (inv r / 2 ^ (m + 1)) + (!r.testBit m).toNat < 4294967296 := by rw [← inv_shift r m hrl (by omega)]; omega
              rw [show (((m + 1 : Nat) : Int) - 1) = (m : Int) from by omega]
              have hx2 : 2 * (inv r / 2 ^ (m + 1)) < 4294967296 := by omega
              clear hb1 hb2
              generalize inv r / 2 ^ (m + 1) = x at *
              cases ht : r.testBit m with
              | true =>
                rw [ht] at hc HI hx1
                go_wp2
                go_round
                case rel => exact ⟨m, by omega, rfl, by rw [HI.out]; simp; omega⟩
                case measure => simp [intOf]
              | false =>
                rw [ht] at hc HI hx1
                have hx3 : 2 * x + 1 < 4294967296 := hx1
                clear hx1
                go_wp2
                go_round
                case rel => exact ⟨m, by omega, rfl, by rw [HI.out]; simp; omega⟩
                case measure => simp [intOf]
end Go.Proofs.Ythgjlofebicpiaa

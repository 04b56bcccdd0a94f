/-
  Numbers in bytes, as lists of integers: plain mathematics, no program.
-/
import Derived.WalkKit
namespace Go.Proofs.Ytiljjgohmjimdaa.Word

/-- n bytes of x, the lowest first -/
def le : Nat → Int → List Int
  | 0, _ => []
  | n + 1, x => x % 256 :: le n (x / 256)
/-- the number that bytes are, the lowest first -/
def val : List Int → Int
  | [] => 0
  | z :: r => z + 256 * val r
def octets (zs : List Int) : Prop := ∀ z ∈ zs, 0 ≤ z ∧ z ≤ 255
def put (zs : List Int) (at_ n : Nat) (x : Int) : List Int := zs.take at_ ++ (le n x ++ zs.drop (at_ + n))
def get (zs : List Int) (at_ n : Nat) : Int := val ((zs.drop at_).take n)

theorem le_length (n : Nat) (x : Int) : (le n x).length = n := by
  induction n generalizing x with
  | zero => rfl
  | succ n ih => simp [le, ih]
theorem pow8_succ (k : Nat) : (2 : Int) ^ (8 * (k + 1)) = 256 * 2 ^ (8 * k) := by
  rw [show 8 * (k + 1) = 8 * k + 8 from by omega, Int.pow_add]; omega
theorem pow8_pos (k : Nat) : (0 : Int) < 2 ^ (8 * k) := Int.pow_pos (by decide)
theorem pow8_le (k m : Nat) (h : k ≤ m) : (2 : Int) ^ (8 * k) ≤ 2 ^ (8 * m) := by
  induction m with
  | zero => obtain rfl : k = 0 := by omega
            exact Int.le_refl _
  | succ m ih =>
    by_cases e : k = m + 1
    · subst e; exact Int.le_refl _
    · have := ih (by omega); have := pow8_pos m; rw [pow8_succ]; omega
theorem pow8_lt (k : Nat) (h : k ≤ 7) : (2 : Int) ^ (8 * k) < 18446744073709551616 := by
  have h1 := pow8_le k 7 h
  have h2 : (2 : Int) ^ (8 * 7) = 72057594037927936 := by decide
  omega
theorem le_snoc (n : Nat) (x : Int) : le (n + 1) x = le n x ++ [x / 2 ^ (8 * n) % 256] := by
  induction n generalizing x with
  | zero => simp [le]
  | succ n ih =>
    rw [le, ih, le, pow8_succ]
    rw [Int.ediv_ediv_of_nonneg (by decide)]
    rfl
theorem val_snoc (l : List Int) (z : Int) : val (l ++ [z]) = val l + z * 2 ^ (8 * l.length) := by
  induction l with
  | nil => simp [val]
  | cons y r ih =>
    simp only [List.cons_append, val, ih, List.length_cons, pow8_succ]
    have : 256 * (z * 2 ^ (8 * r.length)) = z * (256 * 2 ^ (8 * r.length)) := by
      rw [← Int.mul_assoc, ← Int.mul_assoc, Int.mul_comm 256 z]
    omega
theorem val_bounds (l : List Int) (h : octets l) : 0 ≤ val l ∧ val l < 2 ^ (8 * l.length) := by
  induction l with
  | nil => simp [val]
  | cons z r ih =>
    have h1 := ih fun y hy => h y (List.mem_cons_of_mem _ hy)
    have h2 := h z List.mem_cons_self
    simp only [val, List.length_cons, pow8_succ]
    omega
theorem le_bytes (n : Nat) (x : Int) : octets (le n x) := by
  induction n generalizing x with
  | zero => intro z hz; simp [le] at hz
  | succ n ih =>
    intro z hz
    simp only [le, List.mem_cons] at hz
    rcases hz with rfl | hz
    · omega
    · exact ih _ z hz
theorem emod_mul256 (x p : Int) (hp : 0 < p) : x % (256 * p) = x % 256 + 256 * (x / 256 % p) := by
  have h1 := Int.emod_nonneg (x / 256) (show p ≠ 0 by omega)
  have h2 := Int.emod_lt_of_pos (x / 256) hp
  have h3 := Int.mul_ediv_add_emod (x / 256) p
  have h4 : x = (x % 256 + 256 * (x / 256 % p)) + (256 * p) * (x / 256 / p) := by
    rw [Int.mul_assoc]; omega
  generalize hr : x % 256 + 256 * (x / 256 % p) = r at *
  have h5 : x % (256 * p) = (r + (256 * p) * (x / 256 / p)) % (256 * p) := by rw [← h4]
  rw [h5, Int.add_mul_emod_self_left]
  exact Int.emod_eq_of_lt (by omega) (by omega)
theorem val_le (n : Nat) (x : Int) : val (le n x) = x % 2 ^ (8 * n) := by
  induction n generalizing x with
  | zero => simp [le, val, Int.emod_one]
  | succ n ih =>
    rw [le, val, ih, pow8_succ, emod_mul256 _ _ (pow8_pos n)]
theorem le_val (l : List Int) (h : octets l) : le l.length (val l) = l := by
  induction l with
  | nil => rfl
  | cons z r ih =>
    have h1 := ih fun y hy => h y (List.mem_cons_of_mem _ hy)
    have h2 := h z List.mem_cons_self
    simp only [List.length_cons, le, val]
    rw [show (z + 256 * val r) % 256 = z from by omega, show (z + 256 * val r) / 256 = val r from by omega, h1]
theorem put_length (zs : List Int) (at_ n : Nat) (x : Int) (h : at_ + n ≤ zs.length) : (put zs at_ n x).length = zs.length := by
  simp [put, le_length]; omega
theorem put_zero (zs : List Int) (at_ : Nat) (x : Int) : put zs at_ 0 x = zs := by simp [put, le]
theorem put_succ (zs : List Int) (at_ k : Nat) (x : Int) (h : at_ + k < zs.length) :
    (put zs at_ k x).set (at_ + k) (x / 2 ^ (8 * k) % 256) = put zs at_ (k + 1) x := by
  unfold put
  rw [List.set_append_right _ _ (by simp; omega), List.set_append_right _ _ (by simp [le_length]; omega)]
  have e : at_ + k - (zs.take at_).length - (le k x).length = 0 := by simp [le_length]; omega
  rw [e, le_snoc, List.append_assoc]
  congr 2
  rw [List.drop_eq_getElem_cons h, List.set_cons_zero]
  rfl
theorem put_bytes (zs : List Int) (at_ n : Nat) (x : Int) (h : octets zs) : octets (put zs at_ n x) := by
  intro z hz
  simp only [put, List.mem_append] at hz
  rcases hz with hz | hz | hz
  · exact h z (List.mem_of_mem_take hz)
  · exact le_bytes _ _ z hz
  · exact h z (List.mem_of_mem_drop hz)
theorem le_getElem (n : Nat) (x : Int) (j : Nat) (h : j < n) : (le n x)[j]? = some (x / 2 ^ (8 * j) % 256) := by
  induction n generalizing x j with
  | zero => omega
  | succ n ih =>
    cases j with
    | zero => simp [le]
    | succ j => rw [le, List.getElem?_cons_succ, ih _ _ (by omega), pow8_succ, Int.ediv_ediv_of_nonneg (by decide)]
theorem put_in (zs : List Int) (at_ n : Nat) (x : Int) (k : Nat) (h : at_ + n ≤ zs.length) (h1 : at_ ≤ k) (h2 : k < at_ + n) : (put zs at_ n x)[k]? = some (x / 2 ^ (8 * (k - at_)) % 256) := by
  unfold put
  have e : (zs.take at_).length = at_ := by simp; omega
  rw [List.getElem?_append_right (by omega), e, List.getElem?_append_left (by rw [le_length]; omega), le_getElem _ _ _ (by omega)]
theorem put_out (zs : List Int) (at_ n : Nat) (x : Int) (k : Nat) (h : at_ + n ≤ zs.length) (h1 : k < at_ ∨ at_ + n ≤ k) : (put zs at_ n x)[k]? = zs[k]? := by
  unfold put
  have e : (zs.take at_).length = at_ := by simp; omega
  rcases h1 with h1 | h1
  · rw [List.getElem?_append_left (by omega), List.getElem?_take, if_pos h1]
  · rw [List.getElem?_append_right (by omega), e, List.getElem?_append_right (by rw [le_length]; omega), le_length, List.getElem?_drop]
    congr 1
    omega
theorem get_part (zs : List Int) (at_ n : Nat) (h : octets zs) : octets ((zs.drop at_).take n) := fun z hz => h z (List.mem_of_mem_drop (List.mem_of_mem_take hz))
theorem get_succ (zs : List Int) (at_ k : Nat) (h : at_ + k < zs.length) : get zs at_ (k + 1) = get zs at_ k + zs.getD (at_ + k) 0 * 2 ^ (8 * k) := by
  unfold get
  have e : ((zs.drop at_).take k).length = k := by simp; omega
  rw [List.take_succ_eq_append_getElem (by simp; omega), val_snoc, e]
  simp [h]
theorem get_bounds (zs : List Int) (at_ n : Nat) (h : octets zs) : 0 ≤ get zs at_ n ∧ get zs at_ n < 2 ^ (8 * n) := by
  have h1 := val_bounds _ (get_part zs at_ n h)
  have h2 := pow8_le ((zs.drop at_).take n).length n (List.length_take_le _ _)
  exact ⟨h1.1, Int.lt_of_lt_of_le h1.2 h2⟩
theorem get_put (zs : List Int) (at_ n : Nat) (x : Int) (h : at_ + n ≤ zs.length) : get (put zs at_ n x) at_ n = x % 2 ^ (8 * n) := by
  unfold get put
  rw [List.drop_append_of_le_length (by simp; omega), List.drop_eq_nil_of_le (by simp; omega), List.nil_append, List.take_left' (le_length n x), val_le]
theorem put_get (zs : List Int) (at_ n : Nat) (h : at_ + n ≤ zs.length) (hb : octets zs) : put zs at_ n (get zs at_ n) = zs := by
  have h1 := le_val _ (get_part zs at_ n hb)
  have e : ((zs.drop at_).take n).length = n := by simp; omega
  rw [e] at h1
  unfold put get
  rw [h1, ← List.drop_drop, List.take_append_drop, List.take_append_drop]
/-- the highest first -/
def horn (zs : List Int) (at_ k n : Nat) : Int := val ((zs.drop (at_ + k)).take (n - k))
theorem horn_step (zs : List Int) (at_ k n : Nat) (hk : k < n) (h : at_ + n ≤ zs.length) : horn zs at_ k n = horn zs at_ (k + 1) n * 256 + zs.getD (at_ + k) 0 := by
  unfold horn
  have e : n - k = (n - (k + 1)) + 1 := by omega
  rw [e, List.drop_eq_getElem_cons (show at_ + k < zs.length by omega), List.take_succ_cons, val]
  simp only [List.getD_eq_getElem?_getD, List.getElem?_eq_getElem (show at_ + k < zs.length by omega), Option.getD_some, Nat.add_assoc]
  omega
theorem horn_bounds (zs : List Int) (at_ k n : Nat) (h : octets zs) : 0 ≤ horn zs at_ k n ∧ horn zs at_ k n < 2 ^ (8 * (n - k)) := get_bounds zs (at_ + k) (n - k) h
/-- or of two that don't meet -/
theorem or_add (x c : Int) (k : Nat) (hk : k < 8) (hx : 0 ≤ x ∧ x < 2 ^ (8 * k)) (hc : 0 ≤ c) (hc' : c ≤ 255) :
    bits .or .u64 x (IntKind.u64.wrap (c * 2 ^ (8 * k))) = x + c * 2 ^ (8 * k) := by
  obtain ⟨a, rfl⟩ := Int.eq_ofNat_of_zero_le hx.1
  obtain ⟨b, rfl⟩ := Int.eq_ofNat_of_zero_le hc
  have hp : ((2 : Int) ^ (8 * k)) = ((2 ^ (8 * k) : Nat) : Int) := by simp
  have ha : a < 2 ^ (8 * k) := by have := hx.2; rw [hp] at this; omega
  have hq : (2 : Nat) ^ (8 * k) ≤ 72057594037927936 := by
    have := Nat.pow_le_pow_right (n := 2) (by decide) (show 8 * k ≤ 56 by omega)
    exact this
  have hm : b * 2 ^ (8 * k) ≤ 255 * 72057594037927936 := Nat.mul_le_mul (by omega) hq
  rw [hp, show ((b : Int) * ((2 ^ (8 * k) : Nat) : Int)) = ((b * 2 ^ (8 * k) : Nat) : Int) from by simp]
  rw [show IntKind.u64.wrap ((b * 2 ^ (8 * k) : Nat) : Int) = ((b * 2 ^ (8 * k) : Nat) : Int) from by
    simp only [IntKind.wrap, IntKind.bits, IntKind.signed]; simp only [Bool.false_and, Bool.false_eq_true, if_false]; omega]
  rw [u64_or_nat a _ (by omega) (by omega)]
  rw [Nat.or_comm, Nat.mul_comm b, ← Nat.two_pow_add_eq_or_of_lt ha]
  omega
theorem le_add (j k : Nat) (x : Int) : le (j + k) x = le j x ++ le k (x / 2 ^ (8 * j)) := by
  induction j generalizing x with
  | zero => simp [le]
  | succ j ih =>
    rw [show j + 1 + k = (j + k) + 1 from by omega, le, ih, le, pow8_succ, Int.ediv_ediv_of_nonneg (by decide)]
    rfl
theorem put_all (zs : List Int) (n : Nat) (x : Int) (h : zs.length = n) : put zs 0 n x = le n x := by
  subst h
  simp [put]
theorem put_end (zs ys : List Int) (j k : Nat) (y : Int) (hz : zs.length = j) (hy : ys.length = k) : put (zs ++ ys) j k y = zs ++ le k y := by
  subst hz
  subst hy
  simp [put]
theorem get_put_other (zs : List Int) (at_ n p m : Nat) (x : Int) (h : at_ + n ≤ zs.length) (hd : p + m ≤ at_ ∨ at_ + n ≤ p) : get (put zs at_ n x) p m = get zs p m := by
  unfold get
  congr 1
  apply List.ext_getElem?
  intro i
  rw [List.getElem?_take, List.getElem?_take]
  by_cases hi : i < m
  · rw [if_pos hi, if_pos hi, List.getElem?_drop, List.getElem?_drop, put_out _ _ _ _ _ h (by omega)]
  · rw [if_neg hi, if_neg hi]
theorem put_swap (zs : List Int) (a n p m : Nat) (x y : Int) (h : a + n ≤ p) (hp : p + m ≤ zs.length) : put (put zs a n x) p m y = put (put zs p m y) a n x := by
  have h1 : (put zs a n x).length = zs.length := put_length _ _ _ _ (by omega)
  have h2 : (put zs p m y).length = zs.length := put_length _ _ _ _ (by omega)
  apply List.ext_getElem?
  intro i
  by_cases hi : p ≤ i ∧ i < p + m
  · rw [put_in _ _ _ _ _ (by omega) hi.1 hi.2, put_out _ _ _ _ _ (by omega) (by omega), put_in _ _ _ _ _ (by omega) hi.1 hi.2]
  · rw [put_out (put zs a n x) _ _ _ _ (by omega) (by omega)]
    by_cases hj : a ≤ i ∧ i < a + n
    · rw [put_in _ _ _ _ _ (by omega) hj.1 hj.2, put_in _ _ _ _ _ (by omega) hj.1 hj.2]
    · rw [put_out _ _ _ _ _ (by omega) (by omega), put_out _ _ _ _ _ (by omega) (by omega), put_out _ _ _ _ _ (by omega) (by omega)]
theorem and_mask (x : Int) (k : Nat) (hk : k < 8) (hx : 0 ≤ x ∧ x < 18446744073709551616) :
    bits .and .u64 x (IntKind.u64.wrap (IntKind.u64.wrap (2 ^ (8 * k)) - 1)) = x % 2 ^ (8 * k) := by
  obtain ⟨a, rfl⟩ := Int.eq_ofNat_of_zero_le hx.1
  have hp : ((2 : Int) ^ (8 * k)) = ((2 ^ (8 * k) : Nat) : Int) := by simp
  have h1 := pow8_lt k (by omega)
  have h2 : 0 < 2 ^ (8 * k) := Nat.two_pow_pos _
  have hw : ∀ n : Nat, n < 18446744073709551616 → IntKind.u64.wrap (n : Int) = n := fun n hn => by
    simp only [IntKind.wrap, IntKind.bits, IntKind.signed]; simp only [Bool.false_and, Bool.false_eq_true, if_false]; omega
  rw [hp] at h1 ⊢
  rw [hw _ (by omega), show ((2 ^ (8 * k) : Nat) : Int) - 1 = ((2 ^ (8 * k) - 1 : Nat) : Int) from by omega, hw _ (by omega)]
  rw [u64_and_nat a _ (by omega) (by omega), Nat.and_two_pow_sub_one_eq_mod]
  omega
end Go.Proofs.Ytiljjgohmjimdaa.Word

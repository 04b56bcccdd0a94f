/-
  WordM Bytes DevM Frame
-/
import Derived.WalkKit
import Derived.Test.YtgnpohkippegpaaGreatProg
import Derived.Test.YtgnpohkippegpaaGreatMg00
import Derived.WalkSpells
import Derived.WalkLawsBesides
import Derived.OpenShut
import Derived.Deep.QuietTactic
import Derived.BigQuiet
import Derived.IntWalk
import Derived.Test.YtgnpohkippegpaaGreatMg01
import Derived.Laws.IdiomCopy
import Derived.Deep.MidRow
/-
  Numbers in bytes, as lists of integers: plain mathematics, no program.
-/
namespace Go.Proofs.YtgnpohkippegpaaGreat.Word

/-- n bytes of x, the lowest first -/
def le : Nat → Int → List Int
  | 0, _ => []
  | n + 1, x => x % 256 :: le n (x / 256)
/-- the number that bytes are, the lowest first -/
def val : List Int → Int
  | [] => 0
  | z :: r => z + 256 * val r
def octets (zs : List Int) : Prop := ∀ z ∈ zs, 0 ≤ z ∧ z ≤ 255
def put (zs : List Int) (at_ n : Nat) (x : Int) : List Int := zs.take at_ ++ (le n x ++ zs.drop (at_ + n))
def get (zs : List Int) (at_ n : Nat) : Int := val ((zs.drop at_).take n)

theorem le_length (n : Nat) (x : Int) : (le n x).length = n := by
  induction n generalizing x with
  | zero => rfl
  | succ n ih => simp [le, ih]
theorem pow8_succ (k : Nat) : (2 : Int) ^ (8 * (k + 1)) = 256 * 2 ^ (8 * k) := by
  rw [show 8 * (k + 1) = 8 * k + 8 from by omega, Int.pow_add]; omega
theorem pow8_pos (k : Nat) : (0 : Int) < 2 ^ (8 * k) := Int.pow_pos (by decide)
theorem pow8_le (k m : Nat) (h : k ≤ m) : (2 : Int) ^ (8 * k) ≤ 2 ^ (8 * m) := by
  induction m with
  | zero => obtain rfl : k = 0 := by omega
            exact Int.le_refl _
  | succ m ih =>
    by_cases e : k = m + 1
    · subst e; exact Int.le_refl _
    · have := ih (by omega); have := pow8_pos m; rw [pow8_succ]; omega
theorem pow8_lt (k : Nat) (h : k ≤ 7) : (2 : Int) ^ (8 * k) < 18446744073709551616 := by
  have h1 := pow8_le k 7 h
  have h2 : (2 : Int) ^ (8 * 7) = 72057594037927936 := by decide
  omega
theorem le_snoc (n : Nat) (x : Int) : le (n + 1) x = le n x ++ [x / 2 ^ (8 * n) % 256] := by
  induction n generalizing x with
  | zero => simp [le]
  | succ n ih =>
    rw [le, ih, le, pow8_succ]
    rw [Int.ediv_ediv_of_nonneg (by decide)]
    rfl
theorem val_snoc (l : List Int) (z : Int) : val (l ++ [z]) = val l + z * 2 ^ (8 * l.length) := by
  induction l with
  | nil => simp [val]
  | cons y r ih =>
    simp only [List.cons_append, val, ih, List.length_cons, pow8_succ]
    have : 256 * (z * 2 ^ (8 * r.length)) = z * (256 * 2 ^ (8 * r.length)) := by
      rw [← Int.mul_assoc, ← Int.mul_assoc, Int.mul_comm 256 z]
    omega
theorem val_bounds (l : List Int) (h : octets l) : 0 ≤ val l ∧ val l < 2 ^ (8 * l.length) := by
  induction l with
  | nil => simp [val]
  | cons z r ih =>
    have h1 := ih fun y hy => h y (List.mem_cons_of_mem _ hy)
    have h2 := h z List.mem_cons_self
    simp only [val, List.length_cons, pow8_succ]
    omega
theorem le_bytes (n : Nat) (x : Int) : octets (le n x) := by
  induction n generalizing x with
  | zero => intro z hz; simp [le] at hz
  | succ n ih =>
    intro z hz
    simp only [le, List.mem_cons] at hz
    rcases hz with rfl | hz
    · omega
    · exact ih _ z hz
theorem emod_mul256 (x p : Int) (hp : 0 < p) : x % (256 * p) = x % 256 + 256 * (x / 256 % p) := by
  have h1 := Int.emod_nonneg (x / 256) (show p ≠ 0 by omega)
  have h2 := Int.emod_lt_of_pos (x / 256) hp
  have h3 := Int.mul_ediv_add_emod (x / 256) p
  have h4 : x = (x % 256 + 256 * (x / 256 % p)) + (256 * p) * (x / 256 / p) := by
    rw [Int.mul_assoc]; omega
  generalize hr : x % 256 + 256 * (x / 256 % p) = r at *
  have h5 : x % (256 * p) = (r + (256 * p) * (x / 256 / p)) % (256 * p) := by rw [← h4]
  rw [h5, Int.add_mul_emod_self_left]
  exact Int.emod_eq_of_lt (by omega) (by omega)
theorem val_le (n : Nat) (x : Int) : val (le n x) = x % 2 ^ (8 * n) := by
  induction n generalizing x with
  | zero => simp [le, val, Int.emod_one]
  | succ n ih =>
    rw [le, val, ih, pow8_succ, emod_mul256 _ _ (pow8_pos n)]
theorem le_val (l : List Int) (h : octets l) : le l.length (val l) = l := by
  induction l with
  | nil => rfl
  | cons z r ih =>
    have h1 := ih fun y hy => h y (List.mem_cons_of_mem _ hy)
    have h2 := h z List.mem_cons_self
    simp only [List.length_cons, le, val]
    rw [show (z + 256 * val r) % 256 = z from by omega, show (z + 256 * val r) / 256 = val r from by omega, h1]
theorem put_length (zs : List Int) (at_ n : Nat) (x : Int) (h : at_ + n ≤ zs.length) : (put zs at_ n x).length = zs.length := by
  simp [put, le_length]; omega
theorem put_zero (zs : List Int) (at_ : Nat) (x : Int) : put zs at_ 0 x = zs := by simp [put, le]
theorem put_succ (zs : List Int) (at_ k : Nat) (x : Int) (h : at_ + k < zs.length) :
    (put zs at_ k x).set (at_ + k) (x / 2 ^ (8 * k) % 256) = put zs at_ (k + 1) x := by
  unfold put
  rw [List.set_append_right _ _ (by simp; omega), List.set_append_right _ _ (by simp [le_length]; omega)]
  have e : at_ + k - (zs.take at_).length - (le k x).length = 0 := by simp [le_length]; omega
  rw [e, le_snoc, List.append_assoc]
  congr 2
  rw [List.drop_eq_getElem_cons h, List.set_cons_zero]
  rfl
theorem put_bytes (zs : List Int) (at_ n : Nat) (x : Int) (h : octets zs) : octets (put zs at_ n x) := by
  intro z hz
  simp only [put, List.mem_append] at hz
  rcases hz with hz | hz | hz
  · exact h z (List.mem_of_mem_take hz)
  · exact le_bytes _ _ z hz
  · exact h z (List.mem_of_mem_drop hz)
theorem le_getElem (n : Nat) (x : Int) (j : Nat) (h : j < n) : (le n x)[j]? = some (x / 2 ^ (8 * j) % 256) := by
  induction n generalizing x j with
  | zero => omega
  | succ n ih =>
    cases j with
    | zero => simp [le]
    | succ j => rw [le, List.getElem?_cons_succ, ih _ _ (by omega), pow8_succ, Int.ediv_ediv_of_nonneg (by decide)]
theorem put_in (zs : List Int) (at_ n : Nat) (x : Int) (k : Nat) (h : at_ + n ≤ zs.length) (h1 : at_ ≤ k) (h2 : k < at_ + n) : (put zs at_ n x)[k]? = some (x / 2 ^ (8 * (k - at_)) % 256) := by
  unfold put
  have e : (zs.take at_).length = at_ := by simp; omega
  rw [List.getElem?_append_right (by omega), e, List.getElem?_append_left (by rw [le_length]; omega), le_getElem _ _ _ (by omega)]
theorem put_out (zs : List Int) (at_ n : Nat) (x : Int) (k : Nat) (h : at_ + n ≤ zs.length) (h1 : k < at_ ∨ at_ + n ≤ k) : (put zs at_ n x)[k]? = zs[k]? := by
  unfold put
  have e : (zs.take at_).length = at_ := by simp; omega
  rcases h1 with h1 | h1
  · rw [List.getElem?_append_left (by omega), List.getElem?_take, if_pos h1]
  · rw [List.getElem?_append_right (by omega), e, List.getElem?_append_right (by rw [le_length]; omega), le_length, List.getElem?_drop]
    congr 1
    omega
theorem get_part (zs : List Int) (at_ n : Nat) (h : octets zs) : octets ((zs.drop at_).take n) := fun z hz => h z (List.mem_of_mem_drop (List.mem_of_mem_take hz))
theorem get_succ (zs : List Int) (at_ k : Nat) (h : at_ + k < zs.length) : get zs at_ (k + 1) = get zs at_ k + zs.getD (at_ + k) 0 * 2 ^ (8 * k) := by
  unfold get
  have e : ((zs.drop at_).take k).length = k := by simp; omega
  rw [List.take_succ_eq_append_getElem (by simp; omega), val_snoc, e]
  simp [h]
theorem get_bounds (zs : List Int) (at_ n : Nat) (h : octets zs) : 0 ≤ get zs at_ n ∧ get zs at_ n < 2 ^ (8 * n) := by
  have h1 := val_bounds _ (get_part zs at_ n h)
  have h2 := pow8_le ((zs.drop at_).take n).length n (List.length_take_le _ _)
  exact ⟨h1.1, Int.lt_of_lt_of_le h1.2 h2⟩
theorem get_put (zs : List Int) (at_ n : Nat) (x : Int) (h : at_ + n ≤ zs.length) : get (put zs at_ n x) at_ n = x % 2 ^ (8 * n) := by
  unfold get put
  rw [List.drop_append_of_le_length (by simp; omega), List.drop_eq_nil_of_le (by simp; omega), List.nil_append, List.take_left' (le_length n x), val_le]
theorem put_get (zs : List Int) (at_ n : Nat) (h : at_ + n ≤ zs.length) (hb : octets zs) : put zs at_ n (get zs at_ n) = zs := by
  have h1 := le_val _ (get_part zs at_ n hb)
  have e : ((zs.drop at_).take n).length = n := by simp; omega
  rw [e] at h1
  unfold put get
  rw [h1, ← List.drop_drop, List.take_append_drop, List.take_append_drop]
/-- the highest first -/
def horn (zs : List Int) (at_ k n : Nat) : Int := val ((zs.drop (at_ + k)).take (n - k))
theorem horn_step (zs : List Int) (at_ k n : Nat) (hk : k < n) (h : at_ + n ≤ zs.length) : horn zs at_ k n = horn zs at_ (k + 1) n * 256 + zs.getD (at_ + k) 0 := by
  unfold horn
  have e : n - k = (n - (k + 1)) + 1 := by omega
  rw [e, List.drop_eq_getElem_cons (show at_ + k < zs.length by omega), List.take_succ_cons, val]
  simp only [List.getD_eq_getElem?_getD, List.getElem?_eq_getElem (show at_ + k < zs.length by omega), Option.getD_some, Nat.add_assoc]
  omega
theorem horn_bounds (zs : List Int) (at_ k n : Nat) (h : octets zs) : 0 ≤ horn zs at_ k n ∧ horn zs at_ k n < 2 ^ (8 * (n - k)) := get_bounds zs (at_ + k) (n - k) h
/-- or of two that don't meet -/
theorem or_add (x c : Int) (k : Nat) (hk : k < 8) (hx : 0 ≤ x ∧ x < 2 ^ (8 * k)) (hc : 0 ≤ c) (hc' : c ≤ 255) :
    bits .or .u64 x (IntKind.u64.wrap (c * 2 ^ (8 * k))) = x + c * 2 ^ (8 * k) := by
  obtain ⟨a, rfl⟩ := Int.eq_ofNat_of_zero_le hx.1
  obtain ⟨b, rfl⟩ := Int.eq_ofNat_of_zero_le hc
  have hp : ((2 : Int) ^ (8 * k)) = ((2 ^ (8 * k) : Nat) : Int) := by simp
  have ha : a < 2 ^ (8 * k) := by have := hx.2; rw [hp] at this; omega
  have hq : (2 : Nat) ^ (8 * k) ≤ 72057594037927936 := by
    have := Nat.pow_le_pow_right (n := 2) (by decide) (show 8 * k ≤ 56 by omega)
    exact this
  have hm : b * 2 ^ (8 * k) ≤ 255 * 72057594037927936 := Nat.mul_le_mul (by omega) hq
  rw [hp, show ((b : Int) * ((2 ^ (8 * k) : Nat) : Int)) = ((b * 2 ^ (8 * k) : Nat) : Int) from by simp]
  rw [show IntKind.u64.wrap ((b * 2 ^ (8 * k) : Nat) : Int) = ((b * 2 ^ (8 * k) : Nat) : Int) from by
    simp only [IntKind.wrap, IntKind.bits, IntKind.signed]; simp only [Bool.false_and, Bool.false_eq_true, if_false]; omega]
  rw [u64_or_nat a _ (by omega) (by omega)]
  rw [Nat.or_comm, Nat.mul_comm b, ← Nat.two_pow_add_eq_or_of_lt ha]
  omega
theorem le_add (j k : Nat) (x : Int) : le (j + k) x = le j x ++ le k (x / 2 ^ (8 * j)) := by
  induction j generalizing x with
  | zero => simp [le]
  | succ j ih =>
    rw [show j + 1 + k = (j + k) + 1 from by omega, le, ih, le, pow8_succ, Int.ediv_ediv_of_nonneg (by decide)]
    rfl
theorem put_all (zs : List Int) (n : Nat) (x : Int) (h : zs.length = n) : put zs 0 n x = le n x := by
  subst h
  simp [put]
theorem put_end (zs ys : List Int) (j k : Nat) (y : Int) (hz : zs.length = j) (hy : ys.length = k) : put (zs ++ ys) j k y = zs ++ le k y := by
  subst hz
  subst hy
  simp [put]
theorem get_put_other (zs : List Int) (at_ n p m : Nat) (x : Int) (h : at_ + n ≤ zs.length) (hd : p + m ≤ at_ ∨ at_ + n ≤ p) : get (put zs at_ n x) p m = get zs p m := by
  unfold get
  congr 1
  apply List.ext_getElem?
  intro i
  rw [List.getElem?_take, List.getElem?_take]
  by_cases hi : i < m
  · rw [if_pos hi, if_pos hi, List.getElem?_drop, List.getElem?_drop, put_out _ _ _ _ _ h (by omega)]
  · rw [if_neg hi, if_neg hi]
theorem put_swap (zs : List Int) (a n p m : Nat) (x y : Int) (h : a + n ≤ p) (hp : p + m ≤ zs.length) : put (put zs a n x) p m y = put (put zs p m y) a n x := by
  have h1 : (put zs a n x).length = zs.length := put_length _ _ _ _ (by omega)
  have h2 : (put zs p m y).length = zs.length := put_length _ _ _ _ (by omega)
  apply List.ext_getElem?
  intro i
  by_cases hi : p ≤ i ∧ i < p + m
  · rw [put_in _ _ _ _ _ (by omega) hi.1 hi.2, put_out _ _ _ _ _ (by omega) (by omega), put_in _ _ _ _ _ (by omega) hi.1 hi.2]
  · rw [put_out (put zs a n x) _ _ _ _ (by omega) (by omega)]
    by_cases hj : a ≤ i ∧ i < a + n
    · rw [put_in _ _ _ _ _ (by omega) hj.1 hj.2, put_in _ _ _ _ _ (by omega) hj.1 hj.2]
    · rw [put_out _ _ _ _ _ (by omega) (by omega), put_out _ _ _ _ _ (by omega) (by omega), put_out _ _ _ _ _ (by omega) (by omega)]
theorem and_mask (x : Int) (k : Nat) (hk : k < 8) (hx : 0 ≤ x ∧ x < 18446744073709551616) :
    bits .and .u64 x (IntKind.u64.wrap (IntKind.u64.wrap (2 ^ (8 * k)) - 1)) = x % 2 ^ (8 * k) := by
  obtain ⟨a, rfl⟩ := Int.eq_ofNat_of_zero_le hx.1
  have hp : ((2 : Int) ^ (8 * k)) = ((2 ^ (8 * k) : Nat) : Int) := by simp
  have h1 := pow8_lt k (by omega)
  have h2 : 0 < 2 ^ (8 * k) := Nat.two_pow_pos _
  have hw : ∀ n : Nat, n < 18446744073709551616 → IntKind.u64.wrap (n : Int) = n := fun n hn => by
    simp only [IntKind.wrap, IntKind.bits, IntKind.signed]; simp only [Bool.false_and, Bool.false_eq_true, if_false]; omega
  rw [hp] at h1 ⊢
  rw [hw _ (by omega), show ((2 ^ (8 * k) : Nat) : Int) - 1 = ((2 ^ (8 * k) - 1 : Nat) : Int) from by omega, hw _ (by omega)]
  rw [u64_and_nat a _ (by omega) (by omega), Nat.and_two_pow_sub_one_eq_mod]
  omega
end Go.Proofs.YtgnpohkippegpaaGreat.Word

/-
  Bytes in memory as lists of integers; how results are told. No function of the program.
-/
namespace Go.Proofs.YtgnpohkippegpaaGreat
open Go.RowKit Word

def bs (zs : List Int) : List Value := zs.map (Value.int .u8)
theorem bs_get {zs : List Int} {k : Nat} (h : k < zs.length) : (bs zs)[k]? = some (.int .u8 (zs.getD k 0)) := by simp [bs, h]
theorem bs_length (zs : List Int) : (bs zs).length = zs.length := by simp [bs]
theorem bs_one (zs : List Int) : ∀ u ∈ bs zs, u.oneCell' = true := ints_oneCell .u8 zs
theorem bs_inj {xs ys : List Int} (h : bs xs = bs ys) : xs = ys := by
  unfold bs at h
  exact (List.map_inj_right (fun a b h => by injection h)).1 h
theorem octets_getD {zs : List Int} (h : octets zs) (k : Nat) : 0 ≤ zs.getD k 0 ∧ zs.getD k 0 ≤ 255 := by
  rw [List.getD_eq_getElem?_getD]
  cases e : zs[k]? with
  | none => simp
  | some z => exact h z (List.mem_of_getElem? e)

theorem elem8 : Elem Tryz.prog 122 5 (.int .u8 0) 1 1 := .of Tryz.underlying122 (by kernel_rfl) rfl (by omega)
theorem bs_append (xs ys : List Int) : bs (xs ++ ys) = bs xs ++ bs ys := List.map_append
theorem bs_replicate (n : Nat) (z : Int) : bs (List.replicate n z) = List.replicate n (.int .u8 z) := List.map_replicate
theorem bs_drop (n : Nat) (zs : List Int) : bs (zs.drop n) = (bs zs).drop n := List.map_drop
theorem bs_take (n : Nat) (zs : List Int) : bs (zs.take n) = (bs zs).take n := List.map_take
theorem bs_set (zs : List Int) (j : Nat) (x : Int) : bs (zs.set j x) = (bs zs).set j (.int .u8 x) := by simp [bs, List.map_set]
theorem ret_u64 {a b : Int} (h : b = a) : Ending.returned (.int .u64 a) = .returned (.int .u64 b) := by rw [h]
theorem ret_u32 {a b : Int} (h : b = a) : Ending.returned (.int .u32 a) = .returned (.int .u32 b) := by rw [h]
theorem wf_u8 {l : List Int} (h : ∀ y ∈ l, (Lit.int .u8 y).wf = true) : octets l := fun y hy => by
  have := h y hy
  simpa [Lit.wf, IntKind.min, IntKind.max, IntKind.signed, IntKind.bits] using this
theorem wf_byte {x : Int} (h : (Lit.int .u8 x).wf = true) : 0 ≤ x ∧ x ≤ 255 := by
  simpa [Lit.wf, IntKind.min, IntKind.max, IntKind.signed, IntKind.bits] using h
theorem wf_u16 {x : Int} (h : (Lit.int .u16 x).wf = true) : 0 ≤ x ∧ x ≤ 65535 := by
  simpa [Lit.wf, IntKind.min, IntKind.max, IntKind.signed, IntKind.bits] using h
theorem wf_u64 {x : Int} (h : (Lit.int .u64 x).wf = true) : 0 ≤ x ∧ x < 18446744073709551616 := by
  simp [Lit.wf, IntKind.min, IntKind.max, IntKind.signed, IntKind.bits] at h
  omega

end Go.Proofs.YtgnpohkippegpaaGreat

/-
  The device, plainly: what is cached, what lasts; what each command and a crash make of it.
-/
namespace Go.Proofs.YtgnpohkippegpaaGreat
namespace Dev
open Zone
set_option linter.unusedVariables false

/-- a written sector: the zone, the sector in it, its bytes -/
abbrev Wr := Int × Int × List Int
abbrev Pl := Int × Int
def Wr.pl (c : Wr) : Pl := (c.1, c.2.1)
def wc (c : Wr) : List Value := .int .i64 c.1 :: .int .i64 c.2.1 :: bs c.2.2
def wcs (l : List Wr) : List Value := l.flatMap wc
def WOk (l : List Wr) : Prop := ∀ c ∈ l, c.2.2.length = 64
theorem wc_length {c : Wr} (h : c.2.2.length = 64) : (wc c).length = 66 := by simp [wc, bs_length, h]
theorem wcs_append (l m : List Wr) : wcs (l ++ m) = wcs l ++ wcs m := by simp [wcs]
theorem wcs_one (c : Wr) : wcs [c] = wc c := by simp [wcs]
theorem wcs_length : ∀ {l : List Wr}, WOk l → (wcs l).length = l.length * 66
  | [], _ => rfl
  | c :: r, h => by
    have h1 := wc_length (h c (by simp))
    have h2 := wcs_length (l := r) fun x hx => h x (by simp [hx])
    have e : wcs (c :: r) = wc c ++ wcs r := by simp [wcs]
    rw [e, List.length_append, h1, h2, List.length_cons]
    omega
theorem wcs_get : ∀ {l : List Wr} {k : Nat} {c : Wr}, WOk l → l[k]? = some c → ∀ j v, (wc c)[j]? = some v → (wcs l)[k * 66 + j]? = some v
  | [], k, c, _, h => by simp at h
  | x :: r, 0, c, h, hk => by
    intro j v hj
    simp at hk
    subst hk
    have e : wcs (x :: r) = wc x ++ wcs r := by simp [wcs]
    rw [e, Nat.zero_mul, Nat.zero_add, List.getElem?_append_left (List.getElem?_eq_some_iff.1 hj).1]
    exact hj
  | x :: r, k + 1, c, h, hk => by
    intro j v hj
    have h1 := wc_length (h x (by simp))
    have e : wcs (x :: r) = wc x ++ wcs r := by simp [wcs]
    rw [e, List.getElem?_append_right (by rw [h1]; omega), h1, show (k + 1) * 66 + j - 66 = k * 66 + j by omega]
    exact wcs_get (fun y hy => h y (by simp [hy])) (by simpa using hk) j v hj
theorem wc_cells {c : Wr} {u : Value} (h : u ∈ wc c) : u.oneCell' = true := by
  simp only [wc, List.mem_cons] at h
  rcases h with rfl | rfl | h
  · rfl
  · rfl
  · exact bs_one _ _ h
theorem wcs_cells {l : List Wr} {u : Value} (h : u ∈ wcs l) : u.oneCell' = true := by
  simp only [wcs, List.mem_flatMap] at h
  obtain ⟨c, _, h⟩ := h
  exact wc_cells h
def wv (c : Wr) : Value := .agg (wc c).toArray
def pgv (p : List Int) : Value := .agg (bs p).toArray

/-- the last place in a list at which a place was written -/
def newest (l : List Wr) (a : Pl) : Option Nat := (l.zipIdx.reverse.find? fun x => x.1.pl == a).map (·.2)
theorem newest_nil (a : Pl) : newest [] a = none := rfl
theorem newest_snoc (l : List Wr) (c : Wr) (a : Pl) : newest (l ++ [c]) a = if a = c.pl then some l.length else newest l a := by
  unfold newest
  rw [List.zipIdx_append, List.reverse_append]
  simp only [List.zipIdx_cons, List.zipIdx_nil, List.reverse_cons, List.reverse_nil, List.nil_append, List.cons_append, List.find?_cons, Nat.zero_add]
  by_cases h : a = c.pl
  · subst h
    simp
  · have : (c.pl == a) = false := by
      rw [beq_eq_false_iff_ne]
      exact fun e => h e.symm
    simp [this, h]
theorem newest_lt {l : List Wr} {a : Pl} {i : Nat} (h : newest l a = some i) : i < l.length := by
  unfold newest at h
  simp only [Option.map_eq_some_iff] at h
  obtain ⟨x, hx, rfl⟩ := h
  have := List.mem_of_find?_eq_some hx
  simp at this
  obtain ⟨_, h⟩ := List.getElem?_eq_some_iff.1 (List.mem_zipIdx_iff_getElem?.1 this)
  omega
end Dev
end Go.Proofs.YtgnpohkippegpaaGreat

/-
  What a call may touch: a set of blocks. 'Fr T w w'': of the blocks of w all but those of T are what they were. Nothing here speaks of one program.
-/
namespace Go.Proofs.YtgnpohkippegpaaGreat
open Go.RowKit
set_option linter.unusedVariables false

structure Fr (T : Nat → Prop) (w w' : World) : Prop where
  os : w'.os = w.os
  tape : w'.tape = w.tape
  output : w'.output = w.output
  size : w.heap.size ≤ w'.heap.size
  block : ∀ k, k < w.heap.size → ¬ T k → w'.heap[k]? = w.heap[k]?

section
variable {T U : Nat → Prop} {w w1 w2 : World}
theorem Fr.refl (w : World) : Fr T w w := ⟨rfl, rfl, rfl, Nat.le_refl _, fun _ _ _ => rfl⟩
theorem Fr.trans (h : Fr T w w1) (k : Fr T w1 w2) : Fr T w w2 :=
  ⟨k.os.trans h.os, k.tape.trans h.tape, k.output.trans h.output, Nat.le_trans h.size k.size, fun i hi ht => (k.block i (Nat.lt_of_lt_of_le hi h.size) ht).trans (h.block i hi ht)⟩
theorem Fr.mono (h : Fr T w w1) (hU : ∀ k, k < w.heap.size → T k → U k) : Fr U w w1 := ⟨h.os, h.tape, h.output, h.size, fun k hk hu => h.block k hk (fun ht => hu (hU k hk ht))⟩
/-- what was made meanwhile may be touched -/
theorem Fr.andThen (h : Fr T w w1) (k : Fr U w1 w2) (hU : ∀ b, b < w.heap.size → U b → T b) : Fr T w w2 :=
  ⟨k.os.trans h.os, k.tape.trans h.tape, k.output.trans h.output, Nat.le_trans h.size k.size, fun i hi ht => (k.block i (Nat.lt_of_lt_of_le hi h.size) (fun hu => ht (hU i hi hu))).trans (h.block i hi ht)⟩
theorem Fr.of_below (h : Below w.heap.size w w1) : Fr T w w1 := ⟨h.os, h.tape, h.output, h.size, fun k hk _ => h.block k hk⟩
theorem Fr.below (h : Fr T w w1) {B : Nat} (hB : B ≤ w.heap.size) (hT : ∀ k, k < B → ¬ T k) : Below B w w1 := ⟨h.os, h.tape, h.output, h.size, fun k hk => h.block k (Nat.lt_of_lt_of_le hk hB) (hT k hk)⟩
theorem Fr.of_grown {row : Option Nat} (h : w.grownBy w1 row) (hr : ∀ k, row = some k → T k) : Fr T w w1 := ⟨h.os, h.tape, h.output, h.size, fun k hk ht => h.block k hk (fun e => ht (hr k e.symm))⟩
theorem Fr.of_setCell (w : World) (a : Addr) (v : Value) (ha : T a.block) : Fr T w (w.setCell a v) := ⟨rfl, rfl, rfl, by simp [World.setCell], fun k _ ht => Below.heap_setCell _ _ _ _ (fun e => ht (e ▸ ha))⟩
theorem Fr.setCell (h : Fr T w w1) (a : Addr) (v : Value) (ha : T a.block) : Fr T w (w1.setCell a v) := h.trans (.of_setCell _ _ _ ha)
theorem Fr.alloc (h : Fr T w w1) (o : Obj) : Fr T w (w1.alloc o) := h.trans (.of_below ((Below.refl _ _).alloc (Nat.le_refl _) _))
theorem Fr.drew (h : Fr T w w1) : Fr T w w1.drew := h.trans (.of_below (Below.refl _ _).drew)
theorem Fr.drewN (h : Fr T w w1) (n : Nat) : Fr T w (w1.drewN n) := h.trans (.of_below (below_draws (Below.refl _ _) n))
theorem Fr.same (h : Fr T w w1) {k : Nat} (hk : k < w.heap.size) (ht : ¬ T k) : w1.heap[k]? = w.heap[k]? := h.block k hk ht
theorem Fr.cell (h : Fr T w w1) {a : Addr} (hk : a.block < w.heap.size) (ht : ¬ T a.block) : w1.cell? a = w.cell? a := World.cell?_of_block (h.block _ hk ht)
theorem Fr.frozen (h : Fr T w w1) {a : Addr} (hk : a.block < w.heap.size) (ht : ¬ T a.block) : w1.frozen? a = w.frozen? a := World.frozen?_of_block (h.block _ hk ht)
theorem lt_of_block {w : World} {k : Nat} {o : Obj} (h : w.heap[k]? = some o) : k < w.heap.size := (Array.getElem?_eq_some_iff.1 h).1
/-- a row depends on its own block alone -/
theorem own_same {base : Nat} {e : TypeId} {size n : Nat} {v : Value} {xs : List Value} (h : w.ownsRow base e size v n xs) (hb : ∀ g, v.ownBlock = some g → w1.heap[g]? = w.heap[g]?) : w1.ownsRow base e size v n xs := by
  refine ⟨h.1, ?_⟩
  rcases h.2 with h2 | ⟨g, cap, cur, rfl, h2, h3, h4⟩
  · exact .inl h2
  · exact .inr ⟨g, cap, cur, rfl, h2, (hb g rfl).trans h3, h4⟩
theorem own_base0 {base base' : Nat} {e : TypeId} {size n : Nat} {v : Value} {xs : List Value} (h : w.ownsRow base e size v n xs) (hb : base' ≤ base) : w.ownsRow base' e size v n xs := by
  refine ⟨h.1, ?_⟩
  rcases h.2 with h2 | ⟨g, cap, cur, h1, h2, h3⟩
  · exact .inl h2
  · exact .inr ⟨g, cap, cur, h1, Nat.le_trans hb h2, h3⟩
theorem own_type {base : Nat} {e : TypeId} {size n g : Nat} {v : Value} {xs : List Value} (h : w.ownsRow base e size v n xs) (hg : v.ownBlock = some g) : base ≤ g ∧ ∃ cur, w.heap[g]? = some (.cells cur e (0, 0)) := by
  rcases h.2 with ⟨rfl, _⟩ | ⟨g', cap, cur, rfl, h2, h3, h4⟩
  · cases hg
  · injection hg with hg
    subst hg
    exact ⟨h2, cur, h3⟩
end

section
variable {P : Program} (w : World)
/-- append of one element of whatever size, in a region that draws its order -/
theorem step_append_big {ops : Array Oper} {o : Oper} {a : Act} {K : Act → World → Prop} {Q : Exit → Act → World → Prop} {E : Prop} (hgd : o.guard = none) (s x : Operand) (t : TypeId)
    (ho : o.op = .call { callee := .builtin .append, args := #[s, x], argTypes := #[t, t] })
    (base : Nat) (e : TypeId) (z : Value) (size bytes : Nat) (he : Elem P t e z size bytes)
    (v : Value) (n : Nat) (xs : List Value) (hs : a.eval s = v) (hown : w.ownsRow base e size v n xs) (g0 : Nat) (us : List Value) (hx : a.eval x = .slice (some ⟨g0, 0, none⟩) 1 1) (hus : us.length = size) (hcell : ∀ j u', us[j]? = some u' → w.cell? ((⟨g0, 0, none⟩ : Addr).add j) = some u') (h1 : ∀ u ∈ us, u.oneCell' = true)
    (h63 : n + 1 ≤ maxLen) (hbytes : (n + 1) * bytes ≤ 140737488355328) (hbase : base ≤ w.heap.size)
    (h : ∀ g c' w', w'.ownsRow base e size (.slice (some ⟨g, 0, none⟩) (n + 1) c') (n + 1) (xs ++ us) → w.grownBy w' v.ownBlock → (v.ownBlock = some g ∨ g = w.heap.size) → K (a.put o.dst (.slice (some ⟨g, 0, none⟩) (n + 1) c')) w') :
    if Region.wanted o (yielded ops a.tmps) = true then Oper.wp P o a w K Q else E := by
  obtain ⟨ht, i, hi, hz, hsize, hby, hzs, hsz⟩ := he
  exact step_append_lies w hgd s x t ho base e i z size bytes ht hi hz hsize hby hzs hsz v n xs hs hown ⟨g0, 0, none⟩ 1 1 us hx (by omega) hcell h1 (by omega) h63 hbytes hbase _ rfl fun g cap w' h2 h3 h4 h5 => h _ _ w' h2 h3 h4

/-- many cells are loaded at once: the size is a letter, so that the walk does not open the load -/
theorem big_size {P : Program} {t : TypeId} {s : Nat} (h : (P.info? t).map (·.size) = some s) : ∃ n, n = s ∧ ∀ w : World, (sizeOf t).run P w = .ok n w := by
  refine ⟨s, rfl, fun w => ?_⟩
  cases hq : P.info? t with
  | none => simp [hq] at h
  | some i => simp [hq] at h; simp [sizeOf, typeInfo, hq, h]
theorem big_load (P : Program) (a : Addr) (cs : List Value) (n : Nat) (hn : cs.length = n) (w' : World) (h : ∀ j v, cs[j]? = some v → w'.cell? (a.add j) = some v) : (loadCellsFrom a 0 n #[]).run P w' = .ok cs.toArray w' := by
  subst hn; exact run_loadCells_list (P := P) w' a cs h
theorem big_load0 (P : Program) (b o : Nat) (cs : List Value) (n : Nat) (hn : cs.length = n) (w' : World) (h : w'.rangeAt b o cs) : (loadCellsFrom ⟨b, o, none⟩ 0 n #[]).run P w' = .ok cs.toArray w' :=
  big_load P _ cs n hn w' fun j v hj => by rw [Addr.add_mid]; exact h j v hj

/-- where all orders of a region come to one end -/
def Meet (A : Act) (W : World) : Exit → Act → World → Prop
  | .normal, a, w => a = A ∧ w = W
  | _, _, _ => False
theorem wp_meet {P : Program} {c : Code} {Q : Exit → Act → World → Prop} {a : Act} {w : World} {A : Act} {W : World} (h : c.wp P (Meet A W) a w) (h2 : Q .normal A W) : c.wp P Q a w :=
  Code.wp_mono (fun e a' w' hm => by
    cases e <;> first | exact (hm : False).elim | (obtain ⟨rfl, rfl⟩ := (hm : a' = A ∧ w' = W); exact h2)) h

theorem foldl_set (us : List Value) (l : List Value) : ∀ (k : Nat) (pre : List Value), pre.length = k → us.length ≤ l.length →
    (us.zipIdx k).foldl (fun cs (x : Value × Nat) => cs.setIfInBounds (0 + x.2) x.1) ((pre ++ l).toArray) = (pre ++ us ++ l.drop us.length).toArray := by
  induction us generalizing l with
  | nil => intro k pre _ _; simp
  | cons u r ih =>
    intro k pre hk hl
    cases l with
    | nil => simp at hl
    | cons y l =>
      rw [List.zipIdx_cons, List.foldl_cons]
      have e : (pre ++ y :: l).toArray.setIfInBounds (0 + k) u = ((pre ++ [u]) ++ l).toArray := by
        simp [← hk]
      simp only [e]
      rw [ih l (k + 1) (pre ++ [u]) (by simp [hk]) (by simpa using hl)]
      simp
theorem fold_box (Z : Array Value) (k : Nat) (us : List Value) (n : Nat) (hl : us.length = n) :
    List.foldl (fun (cs : Array Value) (x : Value × Nat) => cs.setIfInBounds x.snd x.fst) (Array.map (fun x => Z[x % k]!) (Array.range n)) us.zipIdx = us.toArray := by
  have hf := foldl_set us ((Array.range n).map (fun i => Z[i % k]!)).toList 0 [] rfl (by simp; omega)
  have hd : (((Array.range n).map (fun i => Z[i % k]!)).toList.drop us.length) = [] := List.drop_eq_nil_of_le (by simp; omega)
  rw [hd] at hf
  simp only [List.nil_append, List.append_nil, Array.toArray_toList, Nat.zero_add] at hf
  exact hf
/-- 'T{x}' of one element of whatever size, as append's call lays it -/
theorem run_buildSlice_one {t e : TypeId} {z : Value} {size bytes : Nat} (he : Elem P t e z size bytes) (hs : size ≤ 1000) (us : List Value) (hl : us.length = size) :
    (Instr.buildSlice t 1 #[(0, .agg us.toArray)]).run P w = .ok (.slice (some ⟨w.heap.size, 0, none⟩) 1 1) (w.alloc (.cells us.toArray e)) := by
  obtain ⟨ht, i, hi, hz, hsize, hby, hzs, hsz⟩ := he
  have e1 : ¬ size > 2 ^ 24 := by omega
  have e2 : ¬ size = 0 := by omega
  have hf := foldl_set us ((Array.range size).map (fun i => z.cells[i % z.cells.size]!)).toList 0 [] rfl (by simp; omega)
  have hd : (((Array.range size).map (fun i => z.cells[i % z.cells.size]!)).toList.drop us.length) = [] := List.drop_eq_nil_of_le (by simp; omega)
  rw [hd] at hf
  simp only [List.nil_append, List.append_nil, Array.toArray_toList] at hf
  have hc : us.length ≤ size := by omega
  have hcu : (Value.agg us.toArray).cells = us.toArray := rfl
  simp only [Nat.zero_add] at hf
  simp [Instr.buildSlice, run_underlying ht, sizeOf, typeInfo, hi, hsize, e1, e2, zeroValue, hz, Instr.fill, hcu, hl, newRow, newObj]
  rw [hf]
  rfl
end
end Go.Proofs.YtgnpohkippegpaaGreat

/-
  CrcM CrcC
-/
import Derived.Test.YthgjlofebicpiaaMg01
import Derived.Laws.BitsAllLaws
/-
  CRC-32, as plain mathematics on numbers: shifts of a register, bit by bit. No program.
-/
namespace Go.Proofs.Ythgjlofebicpiaa.Crc
open Word

/-- what a bit that falls off turns -/
def poly : Nat := 3988292384
def full : Nat := 4294967295
def step (x : Nat) : Nat := if x % 2 = 1 then (x / 2) ^^^ poly else x / 2
def steps : Nat → Nat → Nat
  | 0, x => x
  | k + 1, x => step (steps k x)
def byte (r : Nat) (c : Int) : Nat := steps 8 (r ^^^ c.toNat)
def run (r : Nat) (zs : List Int) : Nat := zs.foldl byte r
def inv (x : Nat) : Nat := x ^^^ full
def sum (zs : List Int) : Nat := inv (run full zs)
def more (s : Nat) (zs : List Int) : Nat := inv (run (inv s) zs)

theorem xor_div2 (x y : Nat) : (x ^^^ y) / 2 = x / 2 ^^^ y / 2 := by
  have := Nat.shiftRight_xor_distrib (a := x) (b := y) (i := 1)
  simpa [Nat.shiftRight_succ] using this
theorem xor_lt {x y : Nat} (hx : x < 4294967296) (hy : y < 4294967296) : x ^^^ y < 4294967296 :=
  Nat.xor_lt_two_pow (n := 32) hx hy
theorem step_lt {x : Nat} (h : x < 4294967296) : step x < 4294967296 := by
  unfold step
  split
  · exact xor_lt (by omega) (by decide)
  · omega
theorem steps_lt {x : Nat} (k : Nat) (h : x < 4294967296) : steps k x < 4294967296 := by
  induction k with
  | zero => exact h
  | succ k ih => exact step_lt ih
theorem xor_mod2 (x y : Nat) : (x ^^^ y) % 2 = (x % 2 + y % 2) % 2 := by
  have h := Nat.testBit_xor (x := x) (y := y) (i := 0)
  simp only [Nat.testBit_zero] at h
  have hz := Nat.mod_two_eq_zero_or_one (x ^^^ y)
  generalize (x ^^^ y) % 2 = z at h hz ⊢
  rcases Nat.mod_two_eq_zero_or_one x with hx | hx <;> rcases Nat.mod_two_eq_zero_or_one y with hy | hy <;> rcases hz with rfl | rfl <;> rw [hx, hy] at h <;> rw [hx, hy] <;> simp at h
theorem step_xor (x y : Nat) : step (x ^^^ y) = step x ^^^ step y := by
  unfold step
  rw [xor_mod2, xor_div2]
  have hx := Nat.mod_two_eq_zero_or_one x
  have hy := Nat.mod_two_eq_zero_or_one y
  rcases hx with hx | hx <;> rcases hy with hy | hy <;> rw [hx, hy] <;> simp
  · rw [Nat.xor_assoc]
  · rw [Nat.xor_assoc, Nat.xor_assoc, Nat.xor_comm poly]
  · rw [Nat.xor_assoc (x / 2), ← Nat.xor_assoc poly, Nat.xor_comm poly, Nat.xor_assoc, Nat.xor_self, Nat.xor_zero]
theorem steps_xor (k x y : Nat) : steps k (x ^^^ y) = steps k x ^^^ steps k y := by
  induction k with
  | zero => rfl
  | succ k ih => rw [steps, ih, step_xor]; rfl
theorem step_zero_inj {z : Nat} (h : z < 4294967296) (h0 : step z = 0) : z = 0 := by
  unfold step at h0
  split at h0
  · have h1 : z / 2 = poly := by
      have h2 := congrArg (· ^^^ poly) h0
      simpa [Nat.xor_assoc] using h2
    unfold poly at h1
    omega
  · omega
theorem xor_eq_zero {x y : Nat} (h : x ^^^ y = 0) : x = y := by
  have h2 := congrArg (· ^^^ y) h
  simpa [Nat.xor_assoc] using h2
theorem step_inj {x y : Nat} (hx : x < 4294967296) (hy : y < 4294967296) (h : step x = step y) : x = y := by
  apply xor_eq_zero
  apply step_zero_inj (xor_lt hx hy)
  rw [step_xor, h, Nat.xor_self]
theorem steps_inj {x y : Nat} (k : Nat) (hx : x < 4294967296) (hy : y < 4294967296) (h : steps k x = steps k y) : x = y := by
  induction k with
  | zero => exact h
  | succ k ih => exact ih (step_inj (steps_lt k hx) (steps_lt k hy) h)
theorem step_double (y : Nat) : step (2 * y) = y := by
  unfold step
  rw [if_neg (by omega)]
  omega
theorem steps_succ' (k x : Nat) : steps (k + 1) x = steps k (step x) := by
  induction k with
  | zero => rfl
  | succ k ih => rw [steps, ih]; rfl
theorem steps_shift (k y : Nat) : steps k (2 ^ k * y) = y := by
  induction k with
  | zero => simp [steps]
  | succ k ih =>
    rw [steps_succ', show 2 ^ (k + 1) * y = 2 * (2 ^ k * y) from by rw [Nat.pow_succ, Nat.mul_comm (2 ^ k) 2, Nat.mul_assoc], step_double, ih]

theorem oct_nat {c : Int} (h : 0 ≤ c ∧ c ≤ 255) : c.toNat < 256 := by omega
theorem byte_lt {r : Nat} {c : Int} (h : r < 4294967296) (hc : 0 ≤ c ∧ c ≤ 255) : byte r c < 4294967296 :=
  steps_lt 8 (xor_lt h (by omega))
theorem byte_inj_r {r r' : Nat} {c : Int} (h : r < 4294967296) (h' : r' < 4294967296) (hc : 0 ≤ c ∧ c ≤ 255) (he : byte r c = byte r' c) : r = r' := by
  have h1 := steps_inj 8 (xor_lt h (by omega)) (xor_lt h' (by omega)) he
  have h2 := congrArg (· ^^^ c.toNat) h1
  simpa [Nat.xor_assoc] using h2
theorem byte_inj_c {r : Nat} {c c' : Int} (h : r < 4294967296) (hc : 0 ≤ c ∧ c ≤ 255) (hc' : 0 ≤ c' ∧ c' ≤ 255) (he : byte r c = byte r c') : c = c' := by
  have h1 := steps_inj 8 (xor_lt h (by omega)) (xor_lt h (by omega)) he
  have h2 := congrArg (r ^^^ ·) h1
  simp only [← Nat.xor_assoc, Nat.xor_self, Nat.zero_xor] at h2
  omega
theorem run_lt {zs : List Int} (hb : octets zs) {r : Nat} (h : r < 4294967296) : run r zs < 4294967296 := by
  induction zs generalizing r with
  | nil => exact h
  | cons z zs ih => exact ih (fun y hy => hb y (List.mem_cons_of_mem _ hy)) (byte_lt h (hb z List.mem_cons_self))
theorem run_append (r : Nat) (xs ys : List Int) : run r (xs ++ ys) = run (run r xs) ys := List.foldl_append
theorem run_snoc (r : Nat) (xs : List Int) (c : Int) : run r (xs ++ [c]) = byte (run r xs) c := by rw [run_append]; rfl
theorem run_inj {zs : List Int} (hb : octets zs) {r r' : Nat} (h : r < 4294967296) (h' : r' < 4294967296) (he : run r zs = run r' zs) : r = r' := by
  induction zs generalizing r r' with
  | nil => exact he
  | cons z zs ih =>
    have hz := hb z List.mem_cons_self
    exact byte_inj_r h h' hz (ih (fun y hy => hb y (List.mem_cons_of_mem _ hy)) (byte_lt h hz) (byte_lt h' hz) he)
theorem full_lt : full < 4294967296 := by decide
theorem inv_lt {x : Nat} (h : x < 4294967296) : inv x < 4294967296 := xor_lt h full_lt
theorem inv_inv (x : Nat) : inv (inv x) = x := by unfold inv; rw [Nat.xor_assoc, Nat.xor_self, Nat.xor_zero]
theorem inv_inj {x y : Nat} (h : inv x = inv y) : x = y := by rw [← inv_inv x, h, inv_inv]
theorem inv_eq {x : Nat} (h : x < 4294967296) : inv x = 4294967295 - x := by
  have h1 : x ^^^ (2 ^ 32 - 1) = 2 ^ 32 - 1 - x := by
    apply Nat.eq_of_testBit_eq
    intro i
    rw [show 2 ^ 32 - 1 - x = 2 ^ 32 - (x + 1) by omega, Nat.testBit_two_pow_sub_succ (show x < 2 ^ 32 from h)]
    rw [Nat.testBit_xor, Nat.testBit_two_pow_sub_one]
    by_cases hi : i < 32
    · simp [hi]
    · have : x.testBit i = false := Nat.testBit_lt_two_pow (Nat.lt_of_lt_of_le h (Nat.pow_le_pow_right (n := 2) (by decide) (show 32 ≤ i by omega)))
      simp [hi, this]
  exact h1
theorem sum_lt {zs : List Int} (hb : octets zs) : sum zs < 4294967296 := inv_lt (run_lt hb full_lt)
theorem more_sum (xs ys : List Int) : more (sum xs) ys = sum (xs ++ ys) := by
  unfold more sum
  rw [inv_inv, run_append]
theorem more_nil (s : Nat) : more s [] = s := by unfold more; exact inv_inv s
theorem sum_eq_more (zs : List Int) : more 0 zs = sum zs := by unfold more sum; rfl

/-- texts that differ at one place have unlike sums -/
theorem sum_one {xs ys : List Int} {c c' : Int} (hx : octets xs) (hy : octets ys) (hc : 0 ≤ c ∧ c ≤ 255) (hc' : 0 ≤ c' ∧ c' ≤ 255) (he : sum (xs ++ c :: ys) = sum (xs ++ c' :: ys)) : c = c' := by
  have h := inv_inj he
  rw [run_append, run_append] at h
  have hl := run_lt hx full_lt
  exact byte_inj_c hl hc hc' (run_inj hy (byte_lt hl hc) (byte_lt hl hc') h)

/-- four bytes at once -/
theorem run_four (r : Nat) (a b c d : Int) :
    run r [a, b, c, d] = steps 32 (r ^^^ a.toNat ^^^ 256 * b.toNat ^^^ 65536 * c.toNat ^^^ 16777216 * d.toNat) := by
  have hadd : ∀ k m x : Nat, steps (k + m) x = steps k (steps m x) := by
    intro k m x
    induction k with
    | zero => rw [Nat.zero_add]; rfl
    | succ k ih => rw [show k + 1 + m = (k + m) + 1 from by omega, steps, ih]; rfl
  have h1 : b.toNat = steps 8 (256 * b.toNat) := (steps_shift 8 b.toNat).symm
  have h2 : c.toNat = steps 16 (65536 * c.toNat) := (steps_shift 16 c.toNat).symm
  have h3 : d.toNat = steps 24 (16777216 * d.toNat) := (steps_shift 24 d.toNat).symm
  show byte (byte (byte (byte r a) b) c) d = _
  unfold byte
  have e1 : steps 8 (r ^^^ a.toNat) ^^^ b.toNat = steps 8 (r ^^^ a.toNat ^^^ 256 * b.toNat) := by rw [steps_xor 8 _ (256 * b.toNat), ← h1]
  have e2 : ∀ x, steps 8 (steps 8 x) ^^^ c.toNat = steps 8 (steps 8 (x ^^^ 65536 * c.toNat)) := by
    intro x
    rw [steps_xor 8 x, steps_xor 8, ← hadd 8 8 (65536 * c.toNat), ← h2]
  have e3 : ∀ x, steps 8 (steps 8 (steps 8 x)) ^^^ d.toNat = steps 8 (steps 8 (steps 8 (x ^^^ 16777216 * d.toNat))) := by
    intro x
    rw [steps_xor 8 x, steps_xor 8, steps_xor 8 (steps 8 (steps 8 x)), ← hadd 8 8 (16777216 * d.toNat), ← hadd 8 (8 + 8) (16777216 * d.toNat), ← h3]
  rw [e1, e2, e3, ← hadd, ← hadd, ← hadd]

theorem le_four (a b c d : Nat) (ha : a < 256) (hb : b < 256) (hc : c < 256) : a ^^^ 256 * b ^^^ 65536 * c ^^^ 16777216 * d = a + 256 * b + 65536 * c + 16777216 * d := by
  have h1 : a ^^^ 256 * b = a + 256 * b := by
    have := Nat.two_pow_add_eq_or_of_lt (i := 8) ha b
    rw [Nat.add_comm a, show 256 * b = 2 ^ 8 * b from rfl, this]
    apply Nat.eq_of_testBit_eq
    intro i
    rw [Nat.testBit_xor, Nat.testBit_or, Nat.testBit_two_pow_mul]
    by_cases hi : 8 ≤ i
    · have : a.testBit i = false := Nat.testBit_lt_two_pow (Nat.lt_of_lt_of_le ha (Nat.pow_le_pow_right (n := 2) (by decide) hi))
      simp [this]
    · simp [hi]
  have h2 : ∀ x, x < 65536 → x ^^^ 65536 * c = x + 65536 * c := by
    intro x hx
    have := Nat.two_pow_add_eq_or_of_lt (i := 16) hx c
    rw [Nat.add_comm x, show 65536 * c = 2 ^ 16 * c from rfl, this]
    apply Nat.eq_of_testBit_eq
    intro i
    rw [Nat.testBit_xor, Nat.testBit_or, Nat.testBit_two_pow_mul]
    by_cases hi : 16 ≤ i
    · have : x.testBit i = false := Nat.testBit_lt_two_pow (Nat.lt_of_lt_of_le hx (Nat.pow_le_pow_right (n := 2) (by decide) hi))
      simp [this]
    · simp [hi]
  have h3 : ∀ x, x < 16777216 → x ^^^ 16777216 * d = x + 16777216 * d := by
    intro x hx
    have := Nat.two_pow_add_eq_or_of_lt (i := 24) hx d
    rw [Nat.add_comm x, show 16777216 * d = 2 ^ 24 * d from rfl, this]
    apply Nat.eq_of_testBit_eq
    intro i
    rw [Nat.testBit_xor, Nat.testBit_or, Nat.testBit_two_pow_mul]
    by_cases hi : 24 ≤ i
    · have : x.testBit i = false := Nat.testBit_lt_two_pow (Nat.lt_of_lt_of_le hx (Nat.pow_le_pow_right (n := 2) (by decide) hi))
      simp [this]
    · simp [hi]
  rw [h1, h2 _ (by omega), h3 _ (by omega)]

theorem run_four_inj {r : Nat} (hr : r < 4294967296) {a b c d a' b' c' d' : Int} (ha : 0 ≤ a ∧ a ≤ 255) (hb : 0 ≤ b ∧ b ≤ 255) (hc : 0 ≤ c ∧ c ≤ 255) (hd : 0 ≤ d ∧ d ≤ 255)
    (ha' : 0 ≤ a' ∧ a' ≤ 255) (hb' : 0 ≤ b' ∧ b' ≤ 255) (hc' : 0 ≤ c' ∧ c' ≤ 255) (hd' : 0 ≤ d' ∧ d' ≤ 255) (he : run r [a, b, c, d] = run r [a', b', c', d']) : [a, b, c, d] = [a', b', c', d'] := by
  rw [run_four, run_four] at he
  simp only [Nat.xor_assoc] at he
  have f := fun a b c d : Nat => fun h1 h2 h3 => le_four a b c d h1 h2 h3
  simp only [Nat.xor_assoc] at f
  rw [f a.toNat b.toNat c.toNat d.toNat (by omega) (by omega) (by omega), f a'.toNat b'.toNat c'.toNat d'.toNat (by omega) (by omega) (by omega)] at he
  have h1 := steps_inj 32 (xor_lt hr (by omega)) (xor_lt hr (by omega)) he
  have h2 := congrArg (r ^^^ ·) h1
  simp only [← Nat.xor_assoc, Nat.xor_self, Nat.zero_xor] at h2
  simp only [List.cons.injEq, and_true]
  omega

/-- texts that differ within four bytes in a row have unlike sums -/
theorem sum_tear {xs ys : List Int} {a b c d a' b' c' d' : Int} (hx : octets xs) (hy : octets ys) (ha : 0 ≤ a ∧ a ≤ 255) (hb : 0 ≤ b ∧ b ≤ 255) (hc : 0 ≤ c ∧ c ≤ 255) (hd : 0 ≤ d ∧ d ≤ 255)
    (ha' : 0 ≤ a' ∧ a' ≤ 255) (hb' : 0 ≤ b' ∧ b' ≤ 255) (hc' : 0 ≤ c' ∧ c' ≤ 255) (hd' : 0 ≤ d' ∧ d' ≤ 255) (he : sum (xs ++ ([a, b, c, d] ++ ys)) = sum (xs ++ ([a', b', c', d'] ++ ys))) : [a, b, c, d] = [a', b', c', d'] := by
  have h := inv_inj he
  rw [run_append, run_append, run_append, run_append] at h
  have hl := run_lt hx full_lt
  have o : ∀ p q r s : Int, 0 ≤ p ∧ p ≤ 255 → 0 ≤ q ∧ q ≤ 255 → 0 ≤ r ∧ r ≤ 255 → 0 ≤ s ∧ s ≤ 255 → octets [p, q, r, s] := by
    intro p q r s h1 h2 h3 h4 z hz
    simp at hz
    rcases hz with rfl | rfl | rfl | rfl <;> assumption
  exact run_four_inj hl ha hb hc hd ha' hb' hc' hd' (run_inj hy (run_lt (o _ _ _ _ ha hb hc hd) hl) (run_lt (o _ _ _ _ ha' hb' hc' hd') hl) h)

/-- three texts of one length, turned by one another -/
def tri (a b c : Int) : Int := ((a.toNat ^^^ b.toNat ^^^ c.toNat : Nat) : Int)
def tris : List Int → List Int → List Int → List Int
  | x :: xs, y :: ys, z :: zs => tri x y z :: tris xs ys zs
  | _, _, _ => []
theorem byte_tri (r s t : Nat) (a b c : Int) : byte (r ^^^ s ^^^ t) (tri a b c) = byte r a ^^^ byte s b ^^^ byte t c := by
  unfold byte tri
  rw [← steps_xor, ← steps_xor, Int.toNat_natCast]
  congr 1
  apply Nat.eq_of_testBit_eq
  intro i
  simp only [Nat.testBit_xor]
  cases r.testBit i <;> cases s.testBit i <;> cases t.testBit i <;> cases a.toNat.testBit i <;> cases b.toNat.testBit i <;> cases c.toNat.testBit i <;> rfl
theorem run_tri : ∀ (xs ys zs : List Int) (r s t : Nat), xs.length = ys.length → xs.length = zs.length → run (r ^^^ s ^^^ t) (tris xs ys zs) = run r xs ^^^ run s ys ^^^ run t zs
  | [], [], [], _, _, _, _, _ => rfl
  | x :: xs, y :: ys, z :: zs, r, s, t, h1, h2 => by
    show run (byte (r ^^^ s ^^^ t) (tri x y z)) (tris xs ys zs) = run (byte r x) xs ^^^ run (byte s y) ys ^^^ run (byte t z) zs
    rw [byte_tri]
    exact run_tri xs ys zs _ _ _ (by simpa using h1) (by simpa using h2)
  | [], _ :: _, _, _, _, _, h, _ => by simp at h
  | _ :: _, [], _, _, _, _, h, _ => by simp at h
  | [], [], _ :: _, _, _, _, _, h => by simp at h
  | _ :: _, _ :: _, [], _, _, _, _, h => by simp at h
theorem sum_tri (xs ys zs : List Int) (h1 : xs.length = ys.length) (h2 : xs.length = zs.length) : sum (tris xs ys zs) = sum xs ^^^ sum ys ^^^ sum zs := by
  unfold sum inv
  have h := run_tri xs ys zs full full full h1 h2
  rw [show full ^^^ full ^^^ full = full from by decide] at h
  rw [h]
  apply Nat.eq_of_testBit_eq
  intro i
  simp only [Nat.testBit_xor]
  generalize (run full xs).testBit i = a
  generalize (run full ys).testBit i = b
  generalize (run full zs).testBit i = c
  generalize full.testBit i = d
  cases a <;> cases b <;> cases c <;> cases d <;> rfl
theorem tris_length (xs ys zs : List Int) (h1 : xs.length = ys.length) (h2 : xs.length = zs.length) : (tris xs ys zs).length = xs.length := by
  induction xs generalizing ys zs with
  | nil => cases ys <;> simp_all [tris]
  | cons x xs ih =>
    rcases ys with _ | ⟨y, ys⟩
    · simp at h1
    · rcases zs with _ | ⟨z, zs⟩
      · simp at h2
      · simp [tris, ih ys zs (by simpa using h1) (by simpa using h2)]
theorem tris_getElem? (xs ys zs : List Int) (h1 : xs.length = ys.length) (h2 : xs.length = zs.length) (k : Nat) (hk : k < xs.length) :
    (tris xs ys zs)[k]? = some (tri (xs.getD k 0) (ys.getD k 0) (zs.getD k 0)) := by
  induction xs generalizing ys zs k with
  | nil => simp at hk
  | cons x xs ih =>
    rcases ys with _ | ⟨y, ys⟩
    · simp at h1
    · rcases zs with _ | ⟨z, zs⟩
      · simp at h2
      · cases k with
        | zero => simp [tris]
        | succ k => simpa [tris] using ih ys zs (by simpa using h1) (by simpa using h2) k (by simpa using hk)
theorem tri_lt {a b c : Int} (ha : 0 ≤ a ∧ a ≤ 255) (hb : 0 ≤ b ∧ b ≤ 255) (hc : 0 ≤ c ∧ c ≤ 255) : 0 ≤ tri a b c ∧ tri a b c ≤ 255 := by
  unfold tri
  have h := Nat.xor_lt_two_pow (n := 8) (Nat.xor_lt_two_pow (n := 8) (show a.toNat < 2 ^ 8 by omega) (show b.toNat < 2 ^ 8 by omega)) (show c.toNat < 2 ^ 8 by omega)
  omega
theorem tris_octets (xs ys zs : List Int) (h1 : octets xs) (h2 : octets ys) (h3 : octets zs) : octets (tris xs ys zs) := by
  induction xs generalizing ys zs with
  | nil => intro z hz; simp [tris] at hz
  | cons x xs ih =>
    rcases ys with _ | ⟨y, ys⟩
    · intro z hz; simp [tris] at hz
    · rcases zs with _ | ⟨z, zs⟩
      · intro z hz; simp [tris] at hz
      · intro u hu
        simp only [tris, List.mem_cons] at hu
        rcases hu with rfl | hu
        · exact tri_lt (h1 _ List.mem_cons_self) (h2 _ List.mem_cons_self) (h3 _ List.mem_cons_self)
        · exact ih ys zs (fun y hy => h1 y (List.mem_cons_of_mem _ hy)) (fun y hy => h2 y (List.mem_cons_of_mem _ hy)) (fun y hy => h3 y (List.mem_cons_of_mem _ hy)) u hu
end Go.Proofs.Ythgjlofebicpiaa.Crc

/-
  What each function of package crc does: one contract a function.
-/
namespace Go.Proofs.Ythgjlofebicpiaa
open Go.RowKit Word Crc
set_option linter.unusedVariables false

theorem steps_succ_odd (k x : Nat) (h : steps k x % 2 = 1) : steps (k + 1) x = (steps k x / 2) ^^^ poly := by show Crc.step _ = _; unfold Crc.step; rw [if_pos h]
theorem steps_succ_even (k x : Nat) (h : ¬ steps k x % 2 = 1) : steps (k + 1) x = steps k x / 2 := by show Crc.step _ = _; unfold Crc.step; rw [if_neg h]
theorem u32_low (a : Nat) (h : a < 4294967296) : bits .and .u32 (a : Int) 1 = (a % 2 : Nat) := by
  have := u32_and_nat a 1 h (by decide)
  rw [Nat.and_one_is_mod] at this
  exact this

theorem shifted_any (x : Nat) (w : World) (hx : x < 4294967296) :
    Calls Try.prog 109 #[.int .u32 x] w fun e w' => e = .returned (.int .u32 (steps 8 x : Nat)) ∧ w = w' := by
  go_enter Try.func109, Try.ntmps109
  go_wp2
  go_loop [0, 4] (fun s i => ∃ k : Nat, k ≤ 8 ∧ i = .int .i64 k ∧ s = .int .u32 (steps k x : Nat)) (fun _ i => 8 - (intOf i).toNat)
  case atStart => exact ⟨0, by omega, rfl, rfl⟩
  case round =>
    obtain ⟨k, hk, rfl, rfl⟩ := hrel
    by_cases hlt : k < 8
    · have h1 := steps_lt k hx
      have hO := steps_succ_odd k x
      have hE := steps_succ_even k x
      generalize steps k x = y at *
      by_cases hodd : y % 2 = 1
      · have HO := Lib.hid (hO hodd)
        have HX := Lib.hid (u32_xor_nat (y / 2) poly (by omega) (by decide))
        have hL : bits .and .u32 (y : Int) 1 = 1 := by rw [u32_low y h1, hodd]; rfl
        clear hO hE
        go_wp2
        go_round
        case rel => exact ⟨k + 1, by omega, by go_num, by rw [HO.out, ← HX.out]; rfl⟩
        case measure => simp [intOf]; omega
      · have HE := Lib.hid (hE hodd)
        have hL : bits .and .u32 (y : Int) 1 = 0 := by rw [u32_low y h1]; omega
        clear hO hE
        go_wp2
        go_round
        case rel => exact ⟨k + 1, by omega, by go_num, by rw [HE.out]; rfl⟩
        case measure => simp [intOf]; omega
    · obtain rfl : k = 8 := by omega
      go_wp2
      go_ret
      exact ⟨rfl, rfl⟩

theorem byte_eq (r : Nat) (c : Int) : steps 8 (r ^^^ c.toNat) = byte r c := rfl
theorem not_u32 (x : Nat) (hx : x < 4294967296) : bits .xor .u32 IntKind.u32.max (x : Int) = ((inv x : Nat) : Int) := by
  have h := u32_xor_nat full x full_lt hx
  rw [Nat.xor_comm] at h
  exact h
theorem oct_xor (r : Nat) (c : Int) (hr : r < 4294967296) (hc : 0 ≤ c ∧ c ≤ 255) : bits .xor .u32 (r : Int) c = ((r ^^^ c.toNat : Nat) : Int) := by
  have h := u32_xor_nat r c.toNat hr (by omega)
  rwa [Int.toNat_of_nonneg hc.1] at h
theorem more_any (x : Nat) (A : Option Addr) (len cap : Nat) (zs : List Int) (w : World) (hx : x < 4294967296) (hl : len ≤ maxLen) (hlen : zs.length = len) (hb : octets zs) (B : Nat) (hr : Rd w B A (bs zs)) :
    Calls Try.prog 104 #[.int .u32 x, .slice A len cap] w fun e w' => e = .returned (.int .u32 (more x zs : Nat)) ∧ w = w' := by
  have HL := Lib.hid hlen
  clear hlen
  unfold maxLen at hl
  have hN := not_u32 x hx
  have hi := inv_lt hx
  have HM := Lib.hid (show more x zs = inv (run (inv x) zs) from rfl)
  generalize more x zs = res at HM ⊢
  generalize inv x = y at *
  clear hx
  go_enter Try.func104, Try.ntmps104
  go_wp2
  clear hN
  go_loop [5, 12] (fun s i => ∃ k : Nat, k ≤ len ∧ i = .int .i64 k ∧ s = .int .u32 (run y (zs.take k) : Nat)) (fun _ i => len - (intOf i).toNat)
  case atStart => exact ⟨0, by omega, rfl, rfl⟩
  case round =>
    obtain ⟨k, hk, rfl, rfl⟩ := hrel
    have hbk : octets (zs.take k) := fun z hz => hb z (List.mem_of_mem_take hz)
    have hrl := run_lt hbk hi
    by_cases hlt : k < len
    · obtain ⟨ad, rfl, _, hc⟩ := hr.at (bs_get (k := k) (by rw [HL.out]; omega))
      have HS := Lib.hid (show run y (zs.take (k + 1)) = byte (run y (zs.take k)) (zs.getD k 0) by
        rw [List.take_succ_eq_append_getElem (by rw [HL.out]; omega), run_snoc]; simp [HL.out, hlt])
      have hz := octets_getD hb k
      generalize run y (zs.take k) = r at *
      generalize zs.getD k 0 = c at *
      have hX := oct_xor r c hrl hz
      have HB := Lib.hid (byte_eq r c)
      have hxl : r ^^^ c.toNat < 4294967296 := xor_lt hrl (by omega)
      generalize r ^^^ c.toNat = q at *
      have hz0 := hz.1
      have hz1 := hz.2
      clear hr hz
      go_wp2_with (go_at_call 109; refine (shifted_any q _ hxl).mono ?_; rintro e w' ⟨rfl, rfl⟩)
      go_round
      case rel => exact ⟨k + 1, by omega, by go_num, by rw [HS.out, ← HB.out]⟩
      case measure => simp [intOf]; omega
    · obtain rfl : len = k := by omega
      have e : zs.take len = zs := List.take_of_length_le (by rw [HL.out]; exact Nat.le_refl _)
      rw [e] at hrl ⊢
      have hN := not_u32 (run y zs) hrl
      have hM : inv (run y zs) = res := HM.out.symm
      generalize run y zs = r at *
      subst hM
      go_wp2
      go_ret
      exact ⟨rfl, rfl⟩

theorem sum_any (A : Option Addr) (len cap : Nat) (zs : List Int) (w : World) (hl : len ≤ maxLen) (hlen : zs.length = len) (hb : octets zs) (B : Nat) (hr : Rd w B A (bs zs)) :
    Calls Try.prog 93 #[.slice A len cap] w fun e w' => e = .returned (.int .u32 (Crc.sum zs : Nat)) ∧ w = w' := by
  have H := more_any 0 A len cap zs w (by decide) hl hlen hb B hr
  rw [sum_eq_more] at H
  have HH := Lib.hid H
  clear H hlen hr hb
  go_enter Try.func93, Try.ntmps93
  go_wp2_with (go_at_call 104; refine HH.out.mono ?_; rintro e w' ⟨rfl, rfl⟩)
  go_ret
  exact ⟨rfl, rfl⟩

def sealed (zs : List Int) : List Int := zs ++ le 4 (Crc.sum zs : Nat)
theorem sealed_length (zs : List Int) : (sealed zs).length = zs.length + 4 := by simp [sealed, le_length]
theorem sealed_octets {zs : List Int} (h : octets zs) : octets (sealed zs) := fun y hy => by
  rcases List.mem_append.1 hy with hy | hy
  · exact h y hy
  · exact le_bytes _ _ y hy

def rightB (zs : List Int) : Bool := decide (4 ≤ zs.length) && (val (zs.drop (zs.length - 4)) == ((Crc.sum (zs.take (zs.length - 4)) : Nat) : Int))

theorem u32_place (x c : Int) (k : Nat) (hk : k < 4) (hx : 0 ≤ x ∧ x < 2 ^ (8 * k)) (hc : 0 ≤ c) (hc' : c ≤ 255) :
    bits .or .u32 x (c * 2 ^ (8 * k) % 4294967296) = x + c * 2 ^ (8 * k) := by
  obtain ⟨a, rfl⟩ := Int.eq_ofNat_of_zero_le hx.1
  obtain ⟨b, rfl⟩ := Int.eq_ofNat_of_zero_le hc
  have hp : ((2 : Int) ^ (8 * k)) = ((2 ^ (8 * k) : Nat) : Int) := by simp
  have ha : a < 2 ^ (8 * k) := by have := hx.2; rw [hp] at this; omega
  have hq : (2 : Nat) ^ (8 * k) ≤ 16777216 := Nat.pow_le_pow_right (n := 2) (by decide) (show 8 * k ≤ 24 by omega)
  have hm : b * 2 ^ (8 * k) ≤ 255 * 16777216 := Nat.mul_le_mul (by omega) hq
  rw [hp, show ((b : Int) * ((2 ^ (8 * k) : Nat) : Int)) = ((b * 2 ^ (8 * k) : Nat) : Int) from by simp]
  rw [show ((b * 2 ^ (8 * k) : Nat) : Int) % 4294967296 = ((b * 2 ^ (8 * k) : Nat) : Int) from by omega]
  rw [u32_or_nat a _ (by omega) (by omega)]
  rw [Nat.or_comm, Nat.mul_comm b, ← Nat.two_pow_add_eq_or_of_lt ha]
  omega

set_option maxHeartbeats 400000 in
theorem cright_any (A : Option Addr) (len cap : Nat) (zs : List Int) (w : World) (hl : len ≤ 65536) (hcap : len ≤ cap) (hcm : cap ≤ maxLen) (hlen : zs.length = len) (hb : octets zs) (B : Nat) (hr : Rd w B A (bs zs)) :
    Calls Try.prog 70 #[.slice A len cap] w fun e w' => e = .returned (.bool (rightB zs)) ∧ ∃ q, w.drewN q = w' := by
  have HL := Lib.hid hlen
  unfold maxLen at hcm
  by_cases h4 : len < 4
  · have HR := Lib.hid (show rightB zs = false by simp [rightB, hlen]; omega)
    clear hlen
    have h4' : (len : Int) < 4 := by omega
    go_enter Try.func70, Try.ntmps70
    go_wp2
    go_ret
    exact ⟨ret_bool HR.out, 0, rfl⟩
  · obtain ⟨n, rfl⟩ : ∃ n, len = n + 4 := ⟨len - 4, by omega⟩
    have HR := Lib.hid (show rightB zs = (val (zs.drop n) == ((Crc.sum (zs.take n) : Nat) : Int)) by simp [rightB, hlen])
    have hbt : octets (zs.take n) := fun y hy => hb y (List.mem_of_mem_take hy)
    have hbd : octets (zs.drop n) := fun y hy => hb y (List.mem_of_mem_drop hy)
    have hrt : Rd w B A (bs (zs.take n)) := by rw [bs_take]; exact hr.front
    obtain ⟨ad, rfl, _, _⟩ := hr.at (k := 0) (u := .int .u8 (zs.getD 0 0)) (bs_get (by omega))
    have hrd : Rd w B (some (ad.add n)) (bs (zs.drop n)) := by rw [bs_drop]; exact hr.tail
    have HD := Lib.hid (show (zs.drop n).length = 4 by simp; omega)
    have HA := Lib.hid fun (w : World) hr => sum_any (some ad) n cap (zs.take n) w (by unfold maxLen; omega) (by simp; omega) hbt B hr
    have HT := Lib.hid fun q => hrt.drewN q
    generalize zs.drop n = ys at *
    generalize Crc.sum (zs.take n) = sm at *
    generalize zs.take n = xs at *
    clear hlen hr hb hrt hbt
    go_enter Try.func70, Try.ntmps70
    go_wp2
    go_quiet (fail)
    go_wp2
    go_loop [5, 23] (fun t i => ∃ k : Nat, k ≤ 4 ∧ i = .int .i64 k ∧ t = .int .u32 (val (ys.take k))) (fun _ i => 4 - (intOf i).toNat)
    case atStart => exact ⟨0, by omega, rfl, rfl⟩
    case round =>
      obtain ⟨k, hk, rfl, rfl⟩ := hrel
      by_cases hlt : k < 4
      · have hc := hrd.tail_at (bs_get (k := k) (by rw [HD.out]; omega))
        have hv := val_bounds (ys.take k) (fun y hy => hbd y (List.mem_of_mem_take hy))
        have HV := Lib.hid (val_snoc (ys.take k) (ys.getD k 0))
        have HK := Lib.hid (show ys.take (k + 1) = ys.take k ++ [ys.getD k 0] by
          rw [List.take_succ_eq_append_getElem (by rw [HD.out]; omega)]; simp [HD.out, hlt])
        have hlk : (ys.take k).length = k := by simp [HD.out]; omega
        rw [hlk] at hv HV
        have HO := Lib.hid (u32_place (val (ys.take k)) (ys.getD k 0) k hlt hv (octets_getD hbd k).1 (octets_getD hbd k).2)
        have h0 := (octets_getD hbd k).1
        have h1 := (octets_getD hbd k).2
        have hv0 := hv.1
        have hv1 : val (ys.take k) < 4294967296 := by
          have h1 := pow8_le k 4 hk
          have h2 : (2 : Int) ^ (8 * 4) = 4294967296 := by decide
          omega
        generalize ys.getD k 0 = c at *
        generalize val (ys.take k) = v at *
        clear hrd hv hlk
        go_wp2
        go_round
        case rel => exact ⟨k + 1, by omega, by go_num, by rw [HK.out, HV.out, HO.out]⟩
        case measure => simp [intOf]; omega
      · obtain rfl : k = 4 := by omega
        rw [List.take_of_length_le (by rw [HD.out]; exact Nat.le_refl _)]
        go_wp2_with (go_at_call 93; refine (HA.out _ (HT.out _)).mono ?_; rintro e w' ⟨rfl, rfl⟩)
        go_ret
        exact ⟨ret_bool HR.out, _, rfl⟩
end Go.Proofs.Ythgjlofebicpiaa

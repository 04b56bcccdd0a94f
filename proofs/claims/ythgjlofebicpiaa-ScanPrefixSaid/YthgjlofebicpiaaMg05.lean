/-
  RecM
-/
import Derived.Test.YthgjlofebicpiaaMg04
import Derived.IntWalk
/-
  Package rec, as plain mathematics on lists of bytes: records, their sectors, what is read. No program but the sums' own texts.
-/
namespace Go.Proofs.Ythgjlofebicpiaa
open Go.RowKit Word Crc
set_option linter.unusedVariables false

namespace Rec
structure Rc where
  kind : Int
  epoch : Int
  seq : Int
  block : Int
  count : Int
  data : List Int
abbrev z32 : List Int := List.replicate 32 0
abbrev rc0 : Rc := ⟨0, 0, 0, 0, 0, z32⟩
/-- a number of records, or of epochs -/
abbrev num (n : Int) : Prop := 1 ≤ n ∧ n ≤ 1099511627776
def numB (n : Int) : Bool := decide (1 ≤ n) && decide (n ≤ 1099511627776)
theorem numB_yes {n : Int} (h : num n) : numB n = true := by unfold numB; rw [decide_eq_true h.1, decide_eq_true h.2]; rfl
theorem numB_no {n : Int} (h : ¬ num n) : numB n = false := by
  unfold numB
  by_cases h1 : 1 ≤ n
  · rw [decide_eq_true h1, decide_eq_false (fun h2 => h ⟨h1, h2⟩)]; rfl
  · rw [decide_eq_false h1]; rfl
/-- are the other fields those of the kind? -/
def Fits (r : Rc) : Prop :=
  (r.kind = 1 ∧ (0 ≤ r.block ∧ r.block < 4096) ∧ r.count = 0) ∨ (r.kind = 2 ∧ (0 ≤ r.block ∧ r.block < 4096) ∧ r.count = 0 ∧ r.data = z32) ∨
    (r.kind = 3 ∧ (r.block = 0 ∨ r.block = 1) ∧ (0 ≤ r.count ∧ r.count ≤ 4096) ∧ r.data = z32)
instance (r : Rc) : Decidable (Fits r) := by unfold Fits; exact inferInstance
def fitsB (r : Rc) : Bool := decide (Fits r)
def Ok (r : Rc) : Prop := num r.epoch ∧ num r.seq ∧ Fits r
instance (r : Rc) : Decidable (Ok r) := by unfold Ok; exact inferInstance
def okB (r : Rc) : Bool := decide (Ok r)
theorem okB_eq (r : Rc) : okB r = (numB r.epoch && numB r.seq && fitsB r) := by
  unfold okB fitsB
  by_cases h1 : num r.epoch
  · by_cases h2 : num r.seq
    · rw [numB_yes h1, numB_yes h2]
      by_cases h3 : Fits r
      · rw [decide_eq_true (show Ok r from ⟨h1, h2, h3⟩), decide_eq_true h3]; rfl
      · rw [decide_eq_false (fun h : Ok r => h3 h.2.2), decide_eq_false h3]; rfl
    · rw [numB_yes h1, numB_no h2, decide_eq_false (fun h : Ok r => h2 h.2.1)]; rfl
  · rw [numB_no h1, decide_eq_false (fun h : Ok r => h1 h.1)]; rfl

/-- a record's fields are in their types -/
def In (r : Rc) : Prop := r.data.length = 32 ∧ octets r.data
def front (r : Rc) : List Int := [r.kind] ++ (le 8 r.epoch ++ (le 8 r.seq ++ (le 4 r.block ++ (le 4 r.count ++ (r.data ++ [0, 0, 0])))))
def layL (r : Rc) : List Int := sealed (front r)
theorem front_length (r : Rc) (h : r.data.length = 32) : (front r).length = 60 := by simp [front, le_length, h]
theorem layL_length (r : Rc) (h : r.data.length = 32) : (layL r).length = 64 := by unfold layL; rw [sealed_length, front_length r h]
theorem Ok.kind {r : Rc} (h : Ok r) : 1 ≤ r.kind ∧ r.kind ≤ 3 := by
  rcases h.2.2 with h | h | h <;> obtain ⟨h, _⟩ := h <;> omega
theorem Ok.block {r : Rc} (h : Ok r) : 0 ≤ r.block ∧ r.block < 4096 := by
  rcases h.2.2 with ⟨_, h, _⟩ | ⟨_, h, _⟩ | ⟨_, h, _⟩ <;> omega
theorem Ok.count {r : Rc} (h : Ok r) : 0 ≤ r.count ∧ r.count ≤ 4096 := by
  rcases h.2.2 with ⟨_, _, h⟩ | ⟨_, _, h, _⟩ | ⟨_, _, h, _⟩ <;> omega
theorem octets_append {xs ys : List Int} (hx : octets xs) (hy : octets ys) : octets (xs ++ ys) := fun z hz => (List.mem_append.1 hz).elim (hx z) (hy z)
theorem front_octets {r : Rc} (h : Ok r) (hd : octets r.data) : octets (front r) := by
  unfold front
  refine octets_append ?_ (octets_append (le_bytes _ _) (octets_append (le_bytes _ _) (octets_append (le_bytes _ _) (octets_append (le_bytes _ _) (octets_append hd ?_)))))
  · intro z hz; have := h.kind; simp at hz; omega
  · intro z hz; simp at hz; omega
theorem layL_octets {r : Rc} (h : Ok r) (hd : octets r.data) : octets (layL r) := sealed_octets (front_octets h hd)
theorem layL_right {r : Rc} (h : Ok r) (hd : octets r.data) : rightB (layL r) = true := right_sealed (front_octets h hd)

/-- a number of eight bytes, as an int -/
def i64 (x : Int) : Int := IntKind.i64.wrap x
theorem i64_low {x : Int} (h0 : 0 ≤ x) (h1 : x < 9223372036854775808) : i64 x = x := by
  unfold i64
  simp only [IntKind.wrap, IntKind.bits, IntKind.signed]
  simp
  omega
theorem i64_high {x : Int} (h0 : 9223372036854775808 ≤ x) (h1 : x < 18446744073709551616) : i64 x = x - 18446744073709551616 := by
  unfold i64
  simp only [IntKind.wrap, IntKind.bits, IntKind.signed]
  simp
  omega
/-- what stands in a sector -/
def taken (p : List Int) : Rc := ⟨p.getD 0 0, i64 (get p 1 8), i64 (get p 9 8), i64 (get p 17 4), i64 (get p 21 4), (p.drop 25).take 32⟩
theorem get_mid (xs ys : List Int) (n : Nat) (x : Int) (k : Nat) (h : xs.length = k) : get (xs ++ (le n x ++ ys)) k n = x % 2 ^ (8 * n) := by
  unfold Word.get
  subst h
  rw [List.drop_left, List.take_append_of_le_length (by rw [le_length]; omega), List.take_of_length_le (by rw [le_length]; omega), val_le]
theorem layL_eq (r : Rc) : layL r = [r.kind] ++ (le 8 r.epoch ++ (le 8 r.seq ++ (le 4 r.block ++ (le 4 r.count ++ (r.data ++ ([0, 0, 0] ++ le 4 ((Crc.sum (front r) : Nat) : Int))))))) := by
  unfold layL sealed
  generalize le 4 ((Crc.sum (front r) : Nat) : Int) = s
  unfold front
  simp only [List.append_assoc]
theorem taken_lay {r : Rc} (h : Ok r) (hi : In r) : taken (layL r) = r := by
  have hk := h.kind
  have hb := h.block
  have hc := h.count
  have he := h.1
  have hs := h.2.1
  have hl := hi.1
  have e1 : get (layL r) 1 8 = r.epoch := by
    have := get_mid [r.kind] (le 8 r.seq ++ (le 4 r.block ++ (le 4 r.count ++ (r.data ++ ([0, 0, 0] ++ le 4 (Crc.sum (front r) : Nat)))))) 8 r.epoch 1 rfl
    rw [layL_eq, this]
    exact Int.emod_eq_of_lt (by omega) (by omega)
  have e2 : get (layL r) 9 8 = r.seq := by
    have := get_mid ([r.kind] ++ le 8 r.epoch) (le 4 r.block ++ (le 4 r.count ++ (r.data ++ ([0, 0, 0] ++ le 4 (Crc.sum (front r) : Nat))))) 8 r.seq 9 (by simp [le_length])
    simp only [List.append_assoc] at this
    rw [layL_eq, this]
    exact Int.emod_eq_of_lt (by omega) (by omega)
  have e3 : get (layL r) 17 4 = r.block := by
    have := get_mid ([r.kind] ++ le 8 r.epoch ++ le 8 r.seq) (le 4 r.count ++ (r.data ++ ([0, 0, 0] ++ le 4 (Crc.sum (front r) : Nat)))) 4 r.block 17 (by simp [le_length])
    simp only [List.append_assoc] at this
    rw [layL_eq, this]
    exact Int.emod_eq_of_lt (by omega) (by omega)
  have e4 : get (layL r) 21 4 = r.count := by
    have := get_mid ([r.kind] ++ le 8 r.epoch ++ le 8 r.seq ++ le 4 r.block) (r.data ++ ([0, 0, 0] ++ le 4 (Crc.sum (front r) : Nat))) 4 r.count 21 (by simp [le_length])
    simp only [List.append_assoc] at this
    rw [layL_eq, this]
    exact Int.emod_eq_of_lt (by omega) (by omega)
  have e5 : ((layL r).drop 25).take 32 = r.data := by
    rw [layL_eq, show [r.kind] ++ (le 8 r.epoch ++ (le 8 r.seq ++ (le 4 r.block ++ (le 4 r.count ++ (r.data ++ ([0, 0, 0] ++ le 4 ((Crc.sum (front r) : Nat) : Int))))))) = ([r.kind] ++ le 8 r.epoch ++ le 8 r.seq ++ le 4 r.block ++ le 4 r.count) ++ (r.data ++ ([0, 0, 0] ++ le 4 ((Crc.sum (front r) : Nat) : Int))) by simp only [List.append_assoc]]
    rw [List.drop_left' (by simp [le_length]), List.take_left' hl]
  unfold taken
  rw [e1, e2, e3, e4, e5, i64_low (by omega) (by omega), i64_low (by omega) (by omega), i64_low (by omega) (by omega), i64_low (by omega) (by omega)]
  rfl

/-- what Read answers: the record, and why it is none -/
def readS (p : List Int) : Rc × Int :=
  if rightB p = false then (rc0, 8) else if okB (taken p) = true ∧ layL (taken p) = p then (taken p, 0) else (rc0, 7)
theorem read_lay {r : Rc} (h : Ok r) (hi : In r) : readS (layL r) = (r, 0) := by
  unfold readS
  rw [if_neg (by rw [layL_right h hi.2]; simp), taken_lay h hi, if_pos ⟨decide_eq_true h, rfl⟩]
theorem lay_inj {a b : Rc} (ha : Ok a) (hb : Ok b) (ia : In a) (ib : In b) (h : layL a = layL b) : a = b := by
  rw [← taken_lay ha ia, h, taken_lay hb ib]
theorem taken_in {p : List Int} (hl : p.length = 64) (hp : octets p) : In (taken p) := by
  refine ⟨?_, fun z hz => hp z (List.mem_of_mem_drop (List.mem_of_mem_take hz))⟩
  show ((p.drop 25).take 32).length = 32
  simp [hl]
theorem rc0_in : In rc0 := ⟨by simp [z32], fun z hz => by simp [z32] at hz; omega⟩
theorem read_in {p : List Int} (hl : p.length = 64) (hp : octets p) : In (readS p).1 := by
  unfold readS
  split
  · exact rc0_in
  · split
    · exact taken_in hl hp
    · exact rc0_in

/-- the document's answer reads a number thus -/
def hi (x : Int) : Int := if 1099511627776 < x then -1 else x
def rtaken (p : List Int) : Rc := ⟨p.getD 0 0, hi (get p 1 8), hi (get p 9 8), hi (get p 17 4), hi (get p 21 4), (p.drop 25).take 32⟩
def rreadS (p : List Int) : Rc × Int :=
  if rightB p = false then (rc0, 8) else if okB (rtaken p) = true ∧ p.getD 57 0 = 0 ∧ p.getD 58 0 = 0 ∧ p.getD 59 0 = 0 then (rtaken p, 0) else (rc0, 7)
theorem hi_i64 {x : Int} (h0 : 0 ≤ x) (h1 : x < 18446744073709551616) : (num (hi x) ↔ num (i64 x)) ∧ (num (hi x) → hi x = i64 x) := by
  unfold hi
  by_cases h : 1099511627776 < x
  · rw [if_pos h]
    by_cases h2 : x < 9223372036854775808
    · rw [i64_low h0 h2]
      exact ⟨⟨fun h => by omega, fun h => by omega⟩, fun h => by omega⟩
    · rw [i64_high (by omega) h1]
      exact ⟨⟨fun h => by omega, fun h => by omega⟩, fun h => by omega⟩
  · rw [if_neg h, i64_low h0 (by omega)]
    exact ⟨Iff.rfl, fun _ => rfl⟩
theorem getD_of_split {p : List Int} {k : Nat} (h : k < p.length) : (p.drop k).take 1 = [p.getD k 0] := by
  rw [List.drop_eq_getElem_cons h, List.take_succ_cons, List.take_zero, List.getD_eq_getElem?_getD, List.getElem?_eq_getElem h]
  rfl
/-- a sector of noughts where they should be is laid of what stands in it -/
theorem front_taken {p : List Int} (hl : p.length = 64) (hp : octets p) (hk : Ok (taken p)) (h7 : p.getD 57 0 = 0) (h8 : p.getD 58 0 = 0) (h9 : p.getD 59 0 = 0) : front (taken p) = p.take 60 := by
  have ho : ∀ a b : Nat, octets ((p.drop a).take b) := fun a b z hz => hp z (List.mem_of_mem_drop (List.mem_of_mem_take hz))
  have g : ∀ a b : Nat, 0 ≤ get p a b ∧ get p a b < 2 ^ (8 * b) := fun a b => get_bounds p a b hp
  have hle : ∀ a b : Nat, a + b ≤ 64 → le b (get p a b) = (p.drop a).take b := fun a b hab => by
    have := le_val _ (ho a b)
    rw [show ((p.drop a).take b).length = b by simp [hl]; omega] at this
    exact this
  have b1 := g 1 8
  have b2 := g 9 8
  have b3 := g 17 4
  have b4 := g 21 4
  have n1 := hk.1
  have n2 := hk.2.1
  have hi1 : i64 (get p 1 8) = get p 1 8 := by
    have n1 : num (i64 (get p 1 8)) := hk.1
    by_cases h : get p 1 8 < 9223372036854775808
    · exact i64_low b1.1 h
    · rw [i64_high (by omega) (by omega)] at n1; omega
  have hi2 : i64 (get p 9 8) = get p 9 8 := by
    have n1 : num (i64 (get p 9 8)) := hk.2.1
    by_cases h : get p 9 8 < 9223372036854775808
    · exact i64_low b2.1 h
    · rw [i64_high (by omega) (by omega)] at n1; omega
  show [p.getD 0 0] ++ (le 8 (i64 (get p 1 8)) ++ (le 8 (i64 (get p 9 8)) ++ (le 4 (i64 (get p 17 4)) ++ (le 4 (i64 (get p 21 4)) ++ ((p.drop 25).take 32 ++ [0, 0, 0]))))) = p.take 60
  rw [hi1, hi2, i64_low b3.1 (by omega), i64_low b4.1 (by omega), hle 1 8 (by omega), hle 9 8 (by omega), hle 17 4 (by omega), hle 21 4 (by omega)]
  have s0 : p.take 60 = p.take 1 ++ (p.drop 1).take 59 := List.take_add (i := 1) (j := 59)
  have s1 : (p.drop 1).take 59 = (p.drop 1).take 8 ++ (p.drop 9).take 51 := by rw [show (59 : Nat) = 8 + 51 from rfl, List.take_add, List.drop_drop]
  have s2 : (p.drop 9).take 51 = (p.drop 9).take 8 ++ (p.drop 17).take 43 := by rw [show (51 : Nat) = 8 + 43 from rfl, List.take_add, List.drop_drop]
  have s3 : (p.drop 17).take 43 = (p.drop 17).take 4 ++ (p.drop 21).take 39 := by rw [show (43 : Nat) = 4 + 39 from rfl, List.take_add, List.drop_drop]
  have s4 : (p.drop 21).take 39 = (p.drop 21).take 4 ++ (p.drop 25).take 35 := by rw [show (39 : Nat) = 4 + 35 from rfl, List.take_add, List.drop_drop]
  have s5 : (p.drop 25).take 35 = (p.drop 25).take 32 ++ (p.drop 57).take 3 := by rw [show (35 : Nat) = 32 + 3 from rfl, List.take_add, List.drop_drop]
  have s6 : (p.drop 57).take 3 = [0, 0, 0] := by
    rw [show (3 : Nat) = 1 + (1 + 1) from rfl, List.take_add, List.take_add, List.drop_drop, List.drop_drop, getD_of_split (by omega), getD_of_split (by omega), getD_of_split (by omega), h7, h8, h9]
    rfl
  have s7 : p.take 1 = [p.getD 0 0] := by have := getD_of_split (p := p) (k := 0) (by omega); simpa using this
  rw [s0, s1, s2, s3, s4, s5, s6, s7]
theorem front_zero (r : Rc) (h : r.data.length = 32) : (layL r).getD 57 0 = 0 ∧ (layL r).getD 58 0 = 0 ∧ (layL r).getD 59 0 = 0 := by
  have e : layL r = ([r.kind] ++ le 8 r.epoch ++ le 8 r.seq ++ le 4 r.block ++ le 4 r.count ++ r.data) ++ ([0, 0, 0] ++ le 4 (Crc.sum (front r) : Nat)) := by
    rw [layL_eq]
    simp only [List.append_assoc]
  have hl : ([r.kind] ++ le 8 r.epoch ++ le 8 r.seq ++ le 4 r.block ++ le 4 r.count ++ r.data).length = 57 := by simp [le_length, h]
  rw [e]
  generalize [r.kind] ++ le 8 r.epoch ++ le 8 r.seq ++ le 4 r.block ++ le 4 r.count ++ r.data = xs at hl
  refine ⟨?_, ?_, ?_⟩ <;> rw [List.getD_eq_getElem?_getD, List.getElem?_append_right (by omega), hl] <;> rfl
theorem read_eq {p : List Int} (hl : p.length = 64) (hp : octets p) : rreadS p = readS p := by
  unfold rreadS readS
  by_cases hr : rightB p = false
  · rw [if_pos hr, if_pos hr]
  · rw [if_neg hr, if_neg hr]
    have hr' : rightB p = true := by simpa using hr
    have hseal : sealed (p.take 60) = p := by
      rw [rightB_eq p hp (by omega), hl] at hr'
      exact eq_of_beq hr'
    have b1 := get_bounds p 1 8 hp
    have b2 := get_bounds p 9 8 hp
    have b3 := get_bounds p 17 4 hp
    have b4 := get_bounds p 21 4 hp
    have i1 := hi_i64 (x := get p 1 8) b1.1 (by have := b1.2; omega)
    have i2 := hi_i64 (x := get p 9 8) b2.1 (by have := b2.2; omega)
    have e3 : hi (get p 17 4) = i64 (get p 17 4) := by rw [i64_low b3.1 (by omega)]; unfold hi; rw [if_neg (by omega)]
    have e4 : hi (get p 21 4) = i64 (get p 21 4) := by rw [i64_low b4.1 (by omega)]; unfold hi; rw [if_neg (by omega)]
    have hsame : okB (rtaken p) = true → rtaken p = taken p := by
      intro h
      have hk : Ok (rtaken p) := of_decide_eq_true h
      unfold rtaken taken
      rw [i1.2 hk.1, i2.2 hk.2.1, e3, e4]
    have hback : okB (taken p) = true → rtaken p = taken p := by
      intro h
      have hk : Ok (taken p) := of_decide_eq_true h
      unfold rtaken taken
      rw [i1.2 (i1.1.2 hk.1), i2.2 (i2.1.2 hk.2.1), e3, e4]
    by_cases hc : okB (rtaken p) = true ∧ p.getD 57 0 = 0 ∧ p.getD 58 0 = 0 ∧ p.getD 59 0 = 0
    · have he := hsame hc.1
      rw [if_pos hc, he, if_pos]
      have hk : okB (taken p) = true := he ▸ hc.1
      refine ⟨hk, ?_⟩
      unfold layL
      rw [front_taken hl hp (of_decide_eq_true hk) hc.2.1 hc.2.2.1 hc.2.2.2, hseal]
    · rw [if_neg hc, if_neg]
      rintro ⟨hk, hlay⟩
      apply hc
      refine ⟨by rw [hback hk]; exact hk, ?_⟩
      have := front_zero (taken p) (taken_in hl hp).1
      rwa [hlay] at this

/-! turned bytes -/
def xor8 (x y : Int) : Int := ((x.toNat ^^^ y.toNat : Nat) : Int)
theorem xor8_octet {x y : Int} (hx : 0 ≤ x ∧ x ≤ 255) (hy : 0 ≤ y ∧ y ≤ 255) : 0 ≤ xor8 x y ∧ xor8 x y ≤ 255 := by
  have := Nat.xor_lt_two_pow (n := 8) (show x.toNat < 2 ^ 8 by omega) (show y.toNat < 2 ^ 8 by omega)
  unfold xor8
  omega
theorem bits_xor8 {x y : Int} (hx : 0 ≤ x ∧ x ≤ 255) (hy : 0 ≤ y ∧ y ≤ 255) : bits .xor .u8 x y = xor8 x y := u8_xor x y hx.1 (by omega) hy.1 (by omega)
/-- j bytes of p, from k on, turned by those of ws -/
def turn (p ws : List Int) (k : Nat) : Nat → List Int
  | 0 => p
  | j + 1 => (turn p ws k j).set (k + j) (xor8 ((turn p ws k j).getD (k + j) 0) (ws.getD j 0))
theorem turn_length (p ws : List Int) (k j : Nat) : (turn p ws k j).length = p.length := by
  induction j with
  | zero => rfl
  | succ j ih => rw [turn, List.length_set, ih]
theorem turn_octets {p ws : List Int} (hp : octets p) (hw : octets ws) (k j : Nat) : octets (turn p ws k j) := by
  induction j with
  | zero => exact hp
  | succ j ih =>
    intro z hz
    rcases List.mem_or_eq_of_mem_set hz with h | h
    · exact ih z h
    · rw [h]; exact xor8_octet (octets_getD ih _) (octets_getD hw _)
theorem turn_four (xs ys : List Int) (p0 p1 p2 p3 a b c d : Int) : turn (xs ++ ([p0, p1, p2, p3] ++ ys)) [a, b, c, d] xs.length 4 = xs ++ ([xor8 p0 a, xor8 p1 b, xor8 p2 c, xor8 p3 d] ++ ys) := by
  simp [turn, List.getD_eq_getElem?_getD]
/-- the register behind a whole sealed text is always one -/
theorem right_run {p : List Int} (hp : octets p) (h4 : 4 ≤ p.length) : rightB p = true → Crc.sum p = inv (steps 32 full) := by
  intro h
  rw [rightB_eq p hp h4] at h
  have he : sealed (p.take (p.length - 4)) = p := eq_of_beq h
  have hx : octets (p.take (p.length - 4)) := fun z hz => hp z (List.mem_of_mem_take hz)
  rw [← he]
  generalize p.take (p.length - 4) = xs at hx
  unfold sealed Crc.sum
  congr 1
  rw [run_append]
  have hR := run_lt hx full_lt
  generalize run full xs = R at *
  have hi := inv_lt hR
  have e4 : le 4 (inv R : Nat) = [((inv R : Nat) : Int) % 256, ((inv R : Nat) : Int) / 256 % 256, ((inv R : Nat) : Int) / 256 / 256 % 256, ((inv R : Nat) : Int) / 256 / 256 / 256 % 256] := rfl
  rw [e4, run_four]
  congr 1
  have hf := le_four (((inv R : Nat) : Int) % 256).toNat (((inv R : Nat) : Int) / 256 % 256).toNat (((inv R : Nat) : Int) / 256 / 256 % 256).toNat (((inv R : Nat) : Int) / 256 / 256 / 256 % 256).toNat (by omega) (by omega) (by omega)
  rw [show ∀ a b c d : Nat, R ^^^ a ^^^ b ^^^ c ^^^ d = R ^^^ (a ^^^ b ^^^ c ^^^ d) from fun a b c d => by simp only [Nat.xor_assoc], hf]
  rw [show (((inv R : Nat) : Int) % 256).toNat + 256 * (((inv R : Nat) : Int) / 256 % 256).toNat + 65536 * (((inv R : Nat) : Int) / 256 / 256 % 256).toNat + 16777216 * (((inv R : Nat) : Int) / 256 / 256 / 256 % 256).toNat = inv R by omega]
  unfold inv
  rw [← Nat.xor_assoc, Nat.xor_self, Nat.zero_xor]
/-- of a right text with bytes turned, within four in a row, none is right -/
theorem turn_wrong {p ws : List Int} (hp : octets p) (hw : octets ws) (h4 : ws.length = 4) {k : Nat} (hk : k + 4 ≤ p.length) (h : rightB p = true) (hq : rightB (turn p ws k 4) = true) : turn p ws k 4 = p := by
  have hqo := turn_octets hp hw k 4
  have e1 := right_run hp (by omega) h
  have e2 := right_run hqo (by rw [turn_length]; omega) hq
  obtain ⟨a, b, c, d, e⟩ : ∃ a b c d, ws = [a, b, c, d] := by
    match ws, h4 with
    | [a, b, c, d], _ => exact ⟨a, b, c, d, rfl⟩
  subst e
  have hm : ((p.drop k).take 4).length = 4 := by simp; omega
  obtain ⟨p0, p1, p2, p3, e⟩ : ∃ a b c d, (p.drop k).take 4 = [a, b, c, d] := by
    match (p.drop k).take 4, hm with
    | [a, b, c, d], _ => exact ⟨a, b, c, d, rfl⟩
  have hps : p = p.take k ++ ([p0, p1, p2, p3] ++ p.drop (k + 4)) := by
    rw [← e, ← List.drop_drop, List.take_append_drop, List.take_append_drop]
  have hxl : (p.take k).length = k := by simp; omega
  have hxo : octets (p.take k) := fun z hz => hp z (List.mem_of_mem_take hz)
  have hyo : octets (p.drop (k + 4)) := fun z hz => hp z (List.mem_of_mem_drop hz)
  have ho : ∀ y ∈ [p0, p1, p2, p3], 0 ≤ y ∧ y ≤ 255 := fun y hy => hp y (List.mem_of_mem_drop (List.mem_of_mem_take (by rw [e]; exact hy)))
  generalize p.take k = xs at *
  generalize p.drop (k + 4) = ys at *
  subst hps
  subst hxl
  rw [turn_four] at e2 hqo ⊢
  have hcut := sum_tear hxo hyo (ho p0 (by simp)) (ho p1 (by simp)) (ho p2 (by simp)) (ho p3 (by simp)) (hqo (xor8 p0 a) (by simp)) (hqo (xor8 p1 b) (by simp)) (hqo (xor8 p2 c) (by simp)) (hqo (xor8 p3 d) (by simp)) (e1.trans e2.symm)
  rw [← hcut]
end Rec
end Go.Proofs.Ythgjlofebicpiaa

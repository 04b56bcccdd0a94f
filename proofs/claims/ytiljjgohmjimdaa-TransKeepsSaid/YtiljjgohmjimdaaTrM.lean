/-
  Transactions and ledgers, as mathematics: where a key stands among keys that rise; a write put; a transaction found, set, dropped.
-/
import Derived.Test.YtiljjgohmjimdaaMem
namespace Go.Proofs.Ytiljjgohmjimdaa
set_option linter.unusedVariables false

namespace Tran
/-- a write -/
structure Wt where
  b : Int
  tr : Bool
  data : List Int
/-- a transaction -/
structure Tn where
  id : Int
  bg : Int
  ws : List Wt
abbrev d32 : List Int := List.replicate 32 0
abbrev wt0 : Wt := ⟨0, false, d32⟩
abbrev tn0 : Tn := ⟨0, 0, []⟩
/-- a write as Put lays it -/
def clean (w : Wt) : Wt := if w.tr then ⟨w.b, true, d32⟩ else w
theorem clean_b (w : Wt) : (clean w).b = w.b := by unfold clean; split <;> rfl
theorem clean_yes {w : Wt} (h : w.tr = true) : clean w = ⟨w.b, true, d32⟩ := if_pos h
theorem clean_no {w : Wt} (h : w.tr = false) : clean w = w := by unfold clean; rw [h]; rfl
abbrev keys (l : List Wt) : List Int := l.map Wt.b
abbrev ids (l : List Tn) : List Int := l.map Tn.id
/-- keys rise -/
def Rise (k : List Int) : Prop := k.Pairwise (· < ·)
instance (k : List Int) : Decidable (Rise k) := inferInstanceAs (Decidable (k.Pairwise (· < ·)))
theorem rise_nil : Rise [] := List.Pairwise.nil
theorem rise_cons {x : Int} {k : List Int} : Rise (x :: k) ↔ (∀ y ∈ k, x < y) ∧ Rise k := List.pairwise_cons
/-- how many stand ahead of t -/
def pos (t : Int) : List Int → Nat
  | [] => 0
  | x :: l => if x < t then pos t l + 1 else 0
theorem pos_cons {t x : Int} {l : List Int} : pos t (x :: l) = if x < t then pos t l + 1 else 0 := by rw [pos]
theorem pos_le (t : Int) : ∀ l : List Int, pos t l ≤ l.length
  | [] => Nat.le_refl _
  | x :: l => by
    have := pos_le t l
    unfold pos
    split
    · simp only [List.length_cons]; omega
    · omega
theorem pos_is {t : Int} : ∀ {l : List Int} {i : Nat}, i ≤ l.length → (∀ k x, k < i → l[k]? = some x → x < t) → (∀ k x, i ≤ k → l[k]? = some x → t ≤ x) → pos t l = i
  | [], i, h0, _, _ => by simp at h0; subst h0; rfl
  | x :: l, 0, _, _, h2 => by
    have := h2 0 x (Nat.le_refl _) rfl
    unfold pos
    rw [if_neg (by omega)]
  | x :: l, i + 1, h0, h1, h2 => by
    have := h1 0 x (by omega) rfl
    unfold pos
    rw [if_pos this, pos_is (l := l) (i := i) (by simpa using h0) (fun k y hk hy => h1 (k + 1) y (by omega) (by simpa using hy)) (fun k y hk hy => h2 (k + 1) y (by omega) (by simpa using hy))]
/-- does it stand there? -/
def hit (t : Int) (l : List Int) : Bool := l[pos t l]? == some t
theorem hit_some {t : Int} {l : List Int} {x : Int} (h : l[pos t l]? = some x) : hit t l = decide (x = t) := by
  unfold hit
  rw [h]
  by_cases e : x = t
  · subst e; simp
  · have : (some x == some t) = false := by simpa using e
    rw [this, decide_eq_false e]
theorem hit_none {t : Int} {l : List Int} (h : l.length ≤ pos t l) : hit t l = false := by
  unfold hit
  rw [List.getElem?_eq_none h]
  rfl
theorem hit_lt {t : Int} {l : List Int} (h : hit t l = true) : pos t l < l.length := by
  rcases Nat.lt_or_ge (pos t l) l.length with h1 | h1
  · exact h1
  · rw [hit_none h1] at h; cases h
theorem rise_at {l : List Int} (h : Rise l) {i j : Nat} {x y : Int} (hij : i ≤ j) (hi : l[i]? = some x) (hj : l[j]? = some y) : x ≤ y := by
  rcases Nat.eq_or_lt_of_le hij with rfl | hlt
  · rw [hi] at hj; injection hj with hj; omega
  · obtain ⟨h1, rfl⟩ := List.getElem?_eq_some_iff.1 hi
    obtain ⟨h2, rfl⟩ := List.getElem?_eq_some_iff.1 hj
    have := List.pairwise_iff_getElem.1 h i j h1 h2 hlt
    omega
/-- rising, one by one -/
theorem rise_snoc {l : List Int} {y : Int} : Rise (l ++ [y]) ↔ Rise l ∧ ∀ x ∈ l, x < y := by
  unfold Rise
  rw [List.pairwise_append]
  simp
theorem rise_last {l : List Int} {x y : Int} (h : Rise (l ++ [x])) : Rise (l ++ [x] ++ [y]) ↔ x < y := by
  rw [rise_snoc]
  constructor
  · intro h1; exact h1.2 x (by simp)
  · intro hxy
    refine ⟨h, fun z hz => ?_⟩
    rcases List.mem_append.1 hz with hz | hz
    · have := (rise_snoc.1 h).2 z hz
      omega
    · rw [List.mem_singleton.1 hz]; exact hxy
theorem rise_take {l : List Int} (h : Rise l) (k : Nat) : Rise (l.take k) := List.Pairwise.sublist (List.take_sublist k l) h
/-- the step of a loop that asks of each whether it is above the one ahead -/
theorem rise_more {l : List Int} {k : Nat} {x y : Int} (h : Rise (l.take (k + 1))) (hx : l[k]? = some x) (hy : l[k + 1]? = some y) : Rise (l.take (k + 2)) ↔ x < y := by
  have e1 : l.take (k + 1) = l.take k ++ [x] := by
    obtain ⟨h1, rfl⟩ := List.getElem?_eq_some_iff.1 hx
    exact List.take_succ_eq_append_getElem h1
  have e2 : l.take (k + 2) = l.take (k + 1) ++ [y] := by
    obtain ⟨h1, rfl⟩ := List.getElem?_eq_some_iff.1 hy
    exact List.take_succ_eq_append_getElem h1
  rw [e2, e1]
  rw [e1] at h
  exact rise_last h
theorem not_rise {l : List Int} {k : Nat} {x y : Int} (hx : l[k]? = some x) (hy : l[k + 1]? = some y) (hxy : y ≤ x) : ¬ Rise l := by
  intro h
  obtain ⟨h1, rfl⟩ := List.getElem?_eq_some_iff.1 hx
  obtain ⟨h2, rfl⟩ := List.getElem?_eq_some_iff.1 hy
  have := List.pairwise_iff_getElem.1 h k (k + 1) h1 h2 (by omega)
  omega
theorem rise_len (l : List Int) (h : l.length ≤ 1) : Rise l := by
  match l, h with
  | [], _ => exact rise_nil
  | [x], _ => exact List.pairwise_singleton _ _
  | _ :: _ :: _, h => simp at h

/-- a write put -/
def putL (w : Wt) (l : List Wt) : List Wt := l.take (pos w.b (keys l)) ++ [w] ++ l.drop (pos w.b (keys l) + if hit w.b (keys l) then 1 else 0)
/-- the same, told from the front -/
def ins (w : Wt) : List Wt → List Wt
  | [] => [w]
  | x :: l => if x.b < w.b then x :: ins w l else if x.b = w.b then w :: l else w :: x :: l
theorem put_ins (w : Wt) : ∀ l, putL w l = ins w l
  | [] => rfl
  | x :: l => by
    have ih := put_ins w l
    unfold putL at ih ⊢
    unfold ins
    by_cases h : x.b < w.b
    · have hp : pos w.b (keys (x :: l)) = pos w.b (keys l) + 1 := by
        show pos w.b (x.b :: keys l) = _
        rw [pos_cons, if_pos h]
      have hh : hit w.b (keys (x :: l)) = hit w.b (keys l) := by
        unfold hit
        rw [hp]
        show ((x.b :: keys l)[pos w.b (keys l) + 1]? == some w.b) = _
        rw [List.getElem?_cons_succ]
      rw [if_pos h, hp, hh, show pos w.b (keys l) + 1 + (if hit w.b (keys l) = true then 1 else 0) = (pos w.b (keys l) + if hit w.b (keys l) = true then 1 else 0) + 1 by omega, List.take_succ_cons, List.drop_succ_cons, ← ih]
      rfl
    · have hp : pos w.b (keys (x :: l)) = 0 := by
        show pos w.b (x.b :: keys l) = _
        rw [pos_cons, if_neg h]
      have hh : hit w.b (keys (x :: l)) = decide (x.b = w.b) := hit_some (by rw [hp]; rfl)
      rw [if_neg h, hp, hh]
      by_cases e : x.b = w.b
      · rw [if_pos e]
        simp [e]
      · rw [if_neg e]
        simp [e]
theorem ins_mem {w x : Wt} : ∀ {l : List Wt}, x ∈ ins w l → x = w ∨ x ∈ l
  | [], h => by simpa [ins] using h
  | y :: l, h => by
    unfold ins at h
    split at h
    · rcases List.mem_cons.1 h with rfl | h
      · simp
      · rcases ins_mem h with h | h
        · exact .inl h
        · exact .inr (List.mem_cons_of_mem _ h)
    · split at h
      · rcases List.mem_cons.1 h with rfl | h
        · simp
        · exact .inr (List.mem_cons_of_mem _ h)
      · rcases List.mem_cons.1 h with rfl | h
        · simp
        · exact .inr h
theorem ins_length (w : Wt) : ∀ l : List Wt, (ins w l).length ≤ l.length + 1
  | [] => Nat.le_refl _
  | y :: l => by
    have := ins_length w l
    unfold ins
    split
    · simp only [List.length_cons]; omega
    · split <;> simp
theorem ins_rise {w : Wt} : ∀ {l : List Wt}, Rise (keys l) → Rise (keys (ins w l))
  | [], _ => List.pairwise_singleton _ _
  | y :: l, h => by
    obtain ⟨h1, h2⟩ := rise_cons.1 (show Rise (y.b :: keys l) from h)
    unfold ins
    split
    · rename_i hy
      refine rise_cons.2 ⟨fun z hz => ?_, ins_rise h2⟩
      obtain ⟨x, hx, rfl⟩ := List.mem_map.1 hz
      rcases ins_mem hx with rfl | hx
      · exact hy
      · exact h1 _ (List.mem_map.2 ⟨x, hx, rfl⟩)
    · split
      · rename_i e
        exact rise_cons.2 ⟨fun z hz => by rw [← e]; exact h1 z hz, h2⟩
      · refine rise_cons.2 ⟨fun z hz => ?_, h⟩
        rcases List.mem_cons.1 (show z ∈ y.b :: keys l from hz) with rfl | hz
        · omega
        · have := h1 z hz
          omega
/-- the write of a block -/
def fnd (t : Int) (l : List Wt) : Option Wt := if hit t (keys l) then l[pos t (keys l)]? else none
theorem fnd_cons (t : Int) (x : Wt) (l : List Wt) : fnd t (x :: l) = if x.b < t then fnd t l else if x.b = t then some x else none := by
  unfold fnd
  by_cases h : x.b < t
  · have hp : pos t (keys (x :: l)) = pos t (keys l) + 1 := by
      show pos t (x.b :: keys l) = _
      rw [pos_cons, if_pos h]
    have hh : hit t (keys (x :: l)) = hit t (keys l) := by
      unfold hit
      rw [hp]
      show ((x.b :: keys l)[pos t (keys l) + 1]? == some t) = _
      rw [List.getElem?_cons_succ]
    rw [if_pos h, hh, hp, List.getElem?_cons_succ]
  · have hp : pos t (keys (x :: l)) = 0 := by
      show pos t (x.b :: keys l) = _
      rw [pos_cons, if_neg h]
    have hh : hit t (keys (x :: l)) = decide (x.b = t) := hit_some (by rw [hp]; rfl)
    rw [if_neg h, hp, hh]
    by_cases e : x.b = t <;> simp [e]
theorem fnd_find {t : Int} : ∀ {l : List Wt}, Rise (keys l) → fnd t l = l.find? fun x => x.b == t
  | [], _ => rfl
  | x :: l, h => by
    obtain ⟨h1, h2⟩ := rise_cons.1 (show Rise (x.b :: keys l) from h)
    rw [fnd_cons, List.find?_cons]
    by_cases hx : x.b < t
    · rw [if_pos hx, fnd_find h2]
      have : (x.b == t) = false := by simp; omega
      rw [this]
    · rw [if_neg hx]
      by_cases e : x.b = t
      · have : (x.b == t) = true := by simp [e]
        rw [if_pos e, this]
      · have : (x.b == t) = false := by simp [e]
        rw [if_neg e, this]
        symm
        rw [List.find?_eq_none]
        intro y hy
        have := h1 y.b (List.mem_map.2 ⟨y, hy, rfl⟩)
        simp
        omega
theorem fnd_ins (t : Int) (w : Wt) : ∀ l : List Wt, Rise (keys l) → fnd t (ins w l) = if w.b = t then some w else fnd t l
  | [], _ => by
    show fnd t [w] = _
    rw [fnd_cons]
    by_cases e : w.b = t
    · rw [if_pos e, if_neg (by omega), if_pos e]
    · rw [if_neg e, if_neg e]
      split <;> rfl
  | x :: l, h => by
    obtain ⟨h1, h2⟩ := rise_cons.1 (show Rise (x.b :: keys l) from h)
    have ih := fnd_ins t w l h2
    have habove : ∀ s, s ≤ x.b → s ≠ x.b → fnd s l = none := fun s hs hne => by
      rw [fnd_find h2, List.find?_eq_none]
      intro y hy
      have := h1 y.b (List.mem_map.2 ⟨y, hy, rfl⟩)
      simp
      omega
    unfold ins
    by_cases hx : x.b < w.b
    · rw [if_pos hx, fnd_cons, fnd_cons, ih]
      by_cases hxt : x.b < t
      · rw [if_pos hxt, if_pos hxt]
      · rw [if_neg hxt, if_neg hxt, if_neg (show ¬ w.b = t by omega)]
    · rw [if_neg hx]
      by_cases e : x.b = w.b
      · rw [if_pos e, fnd_cons, fnd_cons, e]
        by_cases h3 : w.b < t
        · rw [if_pos h3, if_pos h3, if_neg (by omega)]
        · rw [if_neg h3, if_neg h3]
          by_cases h4 : w.b = t
          · rw [if_pos h4, if_pos h4]
          · rw [if_neg h4, if_neg h4, if_neg h4]
      · rw [if_neg e, fnd_cons]
        by_cases h3 : w.b < t
        · rw [if_pos h3, if_neg (by omega)]
        · rw [if_neg h3]
          by_cases h4 : w.b = t
          · rw [if_pos h4, if_pos h4]
          · rw [if_neg h4, if_neg h4, fnd_cons, if_neg (by omega), if_neg (by omega)]
/-- the answer's loop over the writes -/
def putS (w : Wt) (s : List Wt × Bool) (x : Wt) : List Wt × Bool :=
  let o := if s.2 = false ∧ w.b ≤ x.b then s.1 ++ [w] else s.1
  (if x.b = w.b then o else o ++ [x], s.2 || decide (w.b ≤ x.b))
def putR (w : Wt) (l : List Wt) : List Wt := (l.foldl (putS w) ([], false)).1 ++ if (l.foldl (putS w) ([], false)).2 then [] else [w]
theorem putS_laid (w : Wt) : ∀ (l o : List Wt), l.foldl (putS w) (o, true) = (o ++ l.filter fun x => x.b != w.b, true)
  | [], o => by simp
  | x :: l, o => by
    rw [List.foldl_cons]
    have e : putS w (o, true) x = (if x.b = w.b then o else o ++ [x], true) := by simp [putS]
    rw [e, putS_laid w l, List.filter_cons]
    by_cases h : x.b = w.b <;> simp [h]
theorem putS_ins (w : Wt) : ∀ (l o : List Wt), Rise (keys l) → (l.foldl (putS w) (o, false)).1 ++ (if (l.foldl (putS w) (o, false)).2 then [] else [w]) = o ++ ins w l
  | [], o, _ => by simp [ins]
  | x :: l, o, h => by
    obtain ⟨h1, h2⟩ := rise_cons.1 (show Rise (x.b :: keys l) from h)
    rw [List.foldl_cons]
    unfold ins
    by_cases hx : x.b < w.b
    · have e : putS w (o, false) x = (o ++ [x], false) := by
        have a : ¬ w.b ≤ x.b := by omega
        have b : ¬ x.b = w.b := by omega
        simp [putS, a, b]
      rw [e, putS_ins w l _ h2, if_pos hx, List.append_assoc]
      rfl
    · have hw : w.b ≤ x.b := by omega
      have hall : l.filter (fun x => x.b != w.b) = l := by
        rw [List.filter_eq_self]
        intro y hy
        have := h1 y.b (List.mem_map.2 ⟨y, hy, rfl⟩)
        simp
        omega
      rw [if_neg hx]
      by_cases e : x.b = w.b
      · have e2 : putS w (o, false) x = (o ++ [w], true) := by simp [putS, e]
        rw [e2, putS_laid, hall, if_pos e]
        simp
      · have e2 : putS w (o, false) x = (o ++ [w] ++ [x], true) := by simp [putS, hw, e]
        rw [e2, putS_laid, hall, if_neg e]
        simp
theorem putR_ins {w : Wt} {l : List Wt} (h : Rise (keys l)) : putR w l = ins w l := by
  have := putS_ins w l [] h
  simpa [putR] using this
/-- how many aren't trims -/
def cntW (l : List Wt) : Nat := l.countP fun x => !x.tr
theorem cntW_snoc (l : List Wt) (x : Wt) : cntW (l ++ [x]) = cntW l + if x.tr then 0 else 1 := by
  unfold cntW
  rw [List.countP_append]
  cases h : x.tr <;> simp [h]

/-! ledgers -/
/-- the transaction of a handle -/
def gett (t : Int) (l : List Tn) : Option Tn := if hit t (ids l) then l[pos t (ids l)]? else none
theorem hit_cons {t x : Int} {l : List Int} : hit t (x :: l) = if x < t then hit t l else decide (x = t) := by
  by_cases h : x < t
  · unfold hit
    rw [if_pos h, pos_cons, if_pos h, List.getElem?_cons_succ]
  · rw [if_neg h]
    exact hit_some (by rw [pos_cons, if_neg h]; rfl)
theorem hit_iff {t : Int} : ∀ {l : List Int}, Rise l → (hit t l = true ↔ t ∈ l)
  | [], _ => by simp [hit, pos]
  | x :: l, h => by
    obtain ⟨h1, h2⟩ := rise_cons.1 h
    rw [hit_cons]
    by_cases hx : x < t
    · rw [if_pos hx, hit_iff h2]
      constructor
      · exact fun h => List.mem_cons_of_mem _ h
      · intro h
        rcases List.mem_cons.1 h with rfl | h
        · omega
        · exact h
    · rw [if_neg hx]
      constructor
      · intro h; simp at h; simp [h]
      · intro h
        rcases List.mem_cons.1 h with rfl | h
        · simp
        · have := h1 t h
          omega
theorem gett_find {t : Int} : ∀ {l : List Tn}, Rise (ids l) → gett t l = l.find? fun x => x.id == t
  | [], _ => rfl
  | x :: l, h => by
    obtain ⟨h1, h2⟩ := rise_cons.1 (show Rise (x.id :: ids l) from h)
    have ih := gett_find (t := t) h2
    unfold gett at ih ⊢
    rw [List.find?_cons]
    show (if hit t (x.id :: ids l) = true then (x :: l)[pos t (x.id :: ids l)]? else none) = _
    rw [hit_cons, pos_cons]
    by_cases hx : x.id < t
    · rw [if_pos hx, if_pos hx, List.getElem?_cons_succ, ih]
      have : (x.id == t) = false := by simp; omega
      rw [this]
    · rw [if_neg hx, if_neg hx]
      by_cases e : x.id = t
      · simp [e]
      · have : (x.id == t) = false := by simp [e]
        rw [this, decide_eq_false e]
        symm
        rw [if_neg (by simp), List.find?_eq_none]
        intro y hy
        have := h1 y.id (List.mem_map.2 ⟨y, hy, rfl⟩)
        simp
        omega
/-- one in the place of that of its handle -/
def setT (t : Tn) (l : List Tn) : List Tn := if hit t.id (ids l) then l.set (pos t.id (ids l)) t else l
theorem setT_map (t : Tn) : ∀ {l : List Tn}, Rise (ids l) → setT t l = l.map fun x => if x.id = t.id then t else x
  | [], _ => by simp [setT]
  | x :: l, h => by
    obtain ⟨h1, h2⟩ := rise_cons.1 (show Rise (x.id :: ids l) from h)
    have ih := setT_map t h2
    unfold setT at ih ⊢
    rw [List.map_cons]
    show (if hit t.id (x.id :: ids l) = true then (x :: l).set (pos t.id (x.id :: ids l)) t else x :: l) = _
    rw [hit_cons, pos_cons]
    by_cases hx : x.id < t.id
    · rw [if_pos hx, if_pos hx, List.set_cons_succ, ← ih, if_neg (show ¬ x.id = t.id by omega)]
      split <;> rfl
    · have hno : l.map (fun x => if x.id = t.id then t else x) = l := by
        conv => rhs; rw [← List.map_id l]
        refine List.map_congr_left fun y hy => ?_
        have := h1 y.id (List.mem_map.2 ⟨y, hy, rfl⟩)
        rw [if_neg (by omega)]
        rfl
      rw [if_neg hx, if_neg hx, hno]
      by_cases e : x.id = t.id
      · simp [e]
      · simp [e]
/-- without that of a handle -/
def dropT (t : Int) (l : List Tn) : List Tn := if hit t (ids l) then l.take (pos t (ids l)) ++ l.drop (pos t (ids l) + 1) else l
theorem dropT_filter (t : Int) : ∀ {l : List Tn}, Rise (ids l) → dropT t l = l.filter fun x => x.id != t
  | [], _ => by simp [dropT]
  | x :: l, h => by
    obtain ⟨h1, h2⟩ := rise_cons.1 (show Rise (x.id :: ids l) from h)
    have ih := dropT_filter t h2
    unfold dropT at ih ⊢
    rw [List.filter_cons]
    show (if hit t (x.id :: ids l) = true then (x :: l).take (pos t (x.id :: ids l)) ++ (x :: l).drop (pos t (x.id :: ids l) + 1) else x :: l) = _
    rw [hit_cons, pos_cons]
    by_cases hx : x.id < t
    · have hne : (x.id != t) = true := by simp; omega
      rw [if_pos hx, if_pos hx, List.take_succ_cons, List.drop_succ_cons, ← ih, hne]
      split <;> rfl
    · have hno : l.filter (fun x => x.id != t) = l := by
        rw [List.filter_eq_self]
        intro y hy
        have := h1 y.id (List.mem_map.2 ⟨y, hy, rfl⟩)
        simp
        omega
      rw [if_neg hx, if_neg hx, hno]
      by_cases e : x.id = t
      · simp [e]
      · simp [e]
/-- the least beginning -/
def oldT (now : Int) : List Tn → Int
  | [] => now
  | x :: l => l.foldl (fun m y => min m y.bg) x.bg
end Tran
end Go.Proofs.Ytiljjgohmjimdaa

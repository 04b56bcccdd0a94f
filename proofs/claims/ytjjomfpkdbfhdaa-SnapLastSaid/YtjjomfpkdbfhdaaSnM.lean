/-
  Package snap, as plain mathematics: commits, what is kept of them, what is read.
-/
import Derived.WalkSpells
namespace Go.Proofs.Ytjjomfpkdbfhdaa
set_option linter.unusedVariables false

namespace Snap
/-- what a block was -/
structure Ol where
  b : Int
  has : Bool
  data : List Int
deriving DecidableEq
/-- the first one of a block -/
def inn (l : List Ol) (b : Int) : Option Ol := l.find? fun o => o.b == b
theorem inn_nil (b : Int) : inn [] b = none := rfl
theorem inn_snoc (l : List Ol) (o : Ol) (b : Int) : inn (l ++ [o]) b = (inn l b).or (if o.b = b then some o else none) := by
  unfold inn
  rw [List.find?_append]
  congr 1
  by_cases h : o.b = b <;> simp [h]
theorem inn_b {l : List Ol} {b : Int} {o : Ol} (h : inn l b = some o) : o.b = b ∧ o ∈ l := by
  have h1 := List.find?_some h
  exact ⟨by simpa using h1, List.mem_of_find?_eq_some h⟩
theorem inn_take {l : List Ol} {k : Nat} {o : Ol} (h : l[k]? = some o) (b : Int) : inn (l.take (k + 1)) b = (inn (l.take k) b).or (if o.b = b then some o else none) := by
  obtain ⟨hk, rfl⟩ := List.getElem?_eq_some_iff.1 h
  rw [List.take_succ_eq_append_getElem hk, inn_snoc]

/-- the last of the first j commits that changed it -/
def lastN (all : List (List Ol)) (b : Int) : Nat → Nat
  | 0 => 0
  | j + 1 => if (inn (all.getD j []) b).isSome = true then j + 1 else lastN all b j
section
variable {all r : List (List Ol)} {b : Int} {i j m : Nat}
theorem lastN_yes (h : (inn (all.getD j []) b).isSome = true) : lastN all b (j + 1) = j + 1 := if_pos h
theorem lastN_no (h : inn (all.getD j []) b = none) : lastN all b (j + 1) = lastN all b j := if_neg (by rw [h]; simp)
theorem lastN_le : ∀ j, lastN all b j ≤ j
  | 0 => Nat.le_refl _
  | j + 1 => by
    unfold lastN
    split
    · exact Nat.le_refl _
    · exact Nat.le_succ_of_le (lastN_le j)
theorem lastN_in : ∀ {j}, 0 < lastN all b j → (inn (all.getD (lastN all b j - 1) []) b).isSome = true
  | 0, h => by simp [lastN] at h
  | j + 1, h => by
    unfold lastN at h ⊢
    split
    · rename_i h1
      simpa using h1
    · rename_i h1
      rw [if_neg h1] at h
      exact lastN_in h
theorem lastN_none : ∀ {j}, lastN all b j ≤ i → i < j → inn (all.getD i []) b = none
  | 0, _, h => by omega
  | j + 1, h, hj => by
    unfold lastN at h
    split at h
    · omega
    · rename_i h1
      by_cases e : i = j
      · subst e
        cases hh : inn (all.getD i []) b with
        | none => rfl
        | some o => rw [hh] at h1; simp at h1
      · exact lastN_none h (by omega)
theorem getD_app (h : j < all.length) : (all ++ r).getD j [] = all.getD j [] := by
  simp [List.getD, List.getElem?_append_left h]
theorem lastN_app : ∀ {j}, j ≤ all.length → lastN (all ++ r) b j = lastN all b j
  | 0, _ => rfl
  | j + 1, h => by
    unfold lastN
    rw [getD_app (by omega), lastN_app (by omega)]
/-- what was ahead of the first commit from m on that changed it -/
def rdF (all : List (List Ol)) (b : Int) (m : Nat) : Option Ol := (all.drop m).findSome? fun l => inn l b
theorem rdF_end (h : all.length ≤ m) : rdF all b m = none := by
  unfold rdF
  rw [List.drop_eq_nil_of_le h]
  rfl
theorem rdF_step (h : m < all.length) : rdF all b m = (inn (all.getD m []) b).or (rdF all b (m + 1)) := by
  unfold rdF
  have e : all.getD m [] = all[m] := by simp [List.getD, List.getElem?_eq_getElem h]
  rw [List.drop_eq_getElem_cons h, List.findSome?_cons, e]
  cases inn all[m] b <;> rfl
theorem rdF_skip : ∀ {d : Nat}, (∀ i, m ≤ i → i < m + d → inn (all.getD i []) b = none) → rdF all b m = rdF all b (m + d)
  | 0, _ => rfl
  | d + 1, h => by
    by_cases hm : m + d < all.length
    · rw [rdF_skip (d := d) fun i h1 h2 => h i h1 (by omega), rdF_step hm, h _ (by omega) (by omega)]
      rfl
    · rw [rdF_skip (d := d) fun i h1 h2 => h i h1 (by omega), rdF_end (by omega), rdF_end (by omega)]
theorem rdF_over (hmj : m ≤ j) (h : ∀ i, m ≤ i → i < j → inn (all.getD i []) b = none) : rdF all b m = rdF all b j := by
  have := rdF_skip (all := all) (b := b) (m := m) (d := j - m) (fun i h1 h2 => h i h1 (by omega))
  rwa [show m + (j - m) = j by omega] at this
theorem rdF_hit {o : Ol} (h : m < all.length) (ho : inn (all.getD m []) b = some o) : rdF all b m = some o := by
  rw [rdF_step h, ho]
  rfl
theorem rdF_b {o : Ol} (h : rdF all b m = some o) : o.b = b ∧ ∃ l ∈ all, o ∈ l := by
  unfold rdF at h
  obtain ⟨l, hl, ho⟩ := List.exists_of_findSome?_eq_some h
  obtain ⟨h1, h2⟩ := inn_b ho
  exact ⟨h1, l, List.mem_of_mem_drop hl, h2⟩
end

/-- the first of each block, among the first k -/
def firstsK (l : List Ol) : Nat → List Ol
  | 0 => []
  | k + 1 => match l[k]? with
    | none => firstsK l k
    | some o => if (inn (l.take k) o.b).isSome = true then firstsK l k else firstsK l k ++ [o]
def firsts (l : List Ol) : List Ol := firstsK l l.length
section
variable {l : List Ol} {k : Nat} {o : Ol} {b : Int}
theorem firstsK_new (h : l[k]? = some o) (hn : inn (l.take k) o.b = none) : firstsK l (k + 1) = firstsK l k ++ [o] := by
  conv => lhs; unfold firstsK
  simp [h, hn]
theorem firstsK_old (h : l[k]? = some o) (hn : (inn (l.take k) o.b).isSome = true) : firstsK l (k + 1) = firstsK l k := by
  conv => lhs; unfold firstsK
  simp [h, hn]
theorem firstsK_iff : ∀ {k}, k ≤ l.length → ∀ o, o ∈ firstsK l k ↔ inn (l.take k) o.b = some o
  | 0, _, o => by simp [firstsK, inn]
  | k + 1, hk, o => by
    have hx : l[k]? = some (l[k]'hk) := List.getElem?_eq_getElem hk
    have ih := fun o => firstsK_iff (k := k) (by omega) o
    rw [inn_take hx]
    generalize l[k]'hk = x at hx
    cases hn : inn (l.take k) x.b with
    | none =>
      rw [firstsK_new hx hn, List.mem_append, ih, List.mem_singleton]
      by_cases e : x.b = o.b
      · rw [if_pos e, ← e, hn]
        simp [eq_comm]
      · rw [if_neg e, Option.or_none]
        constructor
        · rintro (h | rfl)
          · exact h
          · exact absurd rfl e
        · exact .inl
    | some y =>
      rw [firstsK_old hx (by rw [hn]; rfl), ih]
      by_cases e : x.b = o.b
      · rw [if_pos e, ← e, hn]
        simp
      · rw [if_neg e, Option.or_none]
theorem firstsK_pw : ∀ {k}, k ≤ l.length → (firstsK l k).Pairwise fun x y => x.b ≠ y.b
  | 0, _ => List.Pairwise.nil
  | k + 1, hk => by
    have hx : l[k]? = some (l[k]'hk) := List.getElem?_eq_getElem hk
    have ih := firstsK_pw (k := k) (by omega)
    generalize l[k]'hk = x at hx
    cases hn : inn (l.take k) x.b with
    | none =>
      rw [firstsK_new hx hn, List.pairwise_append]
      refine ⟨ih, List.pairwise_singleton _ _, fun y hy z hz => ?_⟩
      obtain rfl := List.mem_singleton.1 hz
      have := (firstsK_iff (by omega) y).1 hy
      intro e
      rw [e, hn] at this
      cases this
    | some y => rw [firstsK_old hx (by rw [hn]; rfl)]; exact ih
theorem firsts_iff (l : List Ol) (o : Ol) : o ∈ firsts l ↔ inn l o.b = some o := by
  have := firstsK_iff (l := l) (Nat.le_refl _) o
  rwa [List.take_length] at this
theorem firstsK_len : ∀ k, (firstsK l k).length ≤ k
  | 0 => Nat.le_refl _
  | k + 1 => by
    unfold firstsK
    have := firstsK_len k
    split
    · omega
    · split
      · omega
      · simp; omega
end

/-- what is kept of a change -/
abbrev Kp := (Int × Int) × (Ol × Int)
def en (all : List (List Ol)) (i : Nat) (o : Ol) : Kp := ((o.b, (i : Int) + 1), (o, (lastN all o.b i : Int)))
def keptN (all : List (List Ol)) (g : Nat) : Nat → List Kp
  | 0 => []
  | j + 1 => keptN all g j ++ if g ≤ j then (firsts (all.getD j [])).map (en all j) else []
def kept (all : List (List Ol)) (g : Nat) : List Kp := keptN all g all.length
section
variable {all r : List (List Ol)} {g g' j : Nat}
theorem keptN_app : ∀ {j}, j ≤ all.length → keptN (all ++ r) g j = keptN all g j
  | 0, _ => rfl
  | j + 1, h => by
    unfold keptN
    rw [keptN_app (by omega), getD_app (by omega)]
    have : (en (all ++ r) j) = en all j := by
      funext o
      unfold en
      rw [lastN_app (by omega)]
    rw [this]
theorem keptN_mem : ∀ {j} {x : Kp}, x ∈ keptN all g j ↔ ∃ i, i < j ∧ g ≤ i ∧ ∃ o, inn (all.getD i []) o.b = some o ∧ x = en all i o
  | 0, x => by simp [keptN]
  | j + 1, x => by
    unfold keptN
    rw [List.mem_append, keptN_mem]
    constructor
    · rintro (⟨i, h1, h2⟩ | h)
      · exact ⟨i, by omega, h2⟩
      · split at h
        · rename_i hg
          obtain ⟨o, ho, rfl⟩ := List.mem_map.1 h
          exact ⟨j, by omega, hg, o, (firsts_iff _ _).1 ho, rfl⟩
        · cases h
    · rintro ⟨i, h1, hg, o, ho, rfl⟩
      by_cases e : i = j
      · subst e
        rw [if_pos hg]
        exact .inr (List.mem_map.2 ⟨o, (firsts_iff _ _).2 ho, rfl⟩)
      · exact .inl ⟨i, by omega, hg, o, ho, rfl⟩
theorem en_pw (all : List (List Ol)) (i : Nat) {L : List Ol} (h : L.Pairwise fun x y => x.b ≠ y.b) : (L.map (en all i)).Pairwise fun x y => x.1 ≠ y.1 := by
  rw [List.pairwise_map]
  refine h.imp fun {x y} hxy e => hxy ?_
  unfold en at e
  simp at e
  exact e
theorem keptN_pw : ∀ {j}, (keptN all g j).Pairwise fun x y => x.1 ≠ y.1
  | 0 => List.Pairwise.nil
  | j + 1 => by
    unfold keptN
    rw [List.pairwise_append]
    refine ⟨keptN_pw, ?_, fun x hx y hy e => ?_⟩
    · split
      · exact en_pw all j (firstsK_pw (Nat.le_refl _))
      · exact List.Pairwise.nil
    · obtain ⟨i, hi, _, o, _, rfl⟩ := keptN_mem.1 hx
      split at hy
      · obtain ⟨o', _, rfl⟩ := List.mem_map.1 hy
        unfold en at e
        simp at e
        omega
      · cases hy
theorem keptN_forget (hg : g ≤ g') : ∀ {j}, keptN all g' j = (keptN all g j).filter fun x => decide ((g' : Int) < x.1.2)
  | 0 => rfl
  | j + 1 => by
    unfold keptN
    rw [List.filter_append, ← keptN_forget hg]
    congr 1
    by_cases h1 : g' ≤ j
    · rw [if_pos h1, if_pos (show g ≤ j by omega), List.filter_eq_self.2]
      intro x hx
      obtain ⟨o, _, rfl⟩ := List.mem_map.1 hx
      exact decide_eq_true (show (g' : Int) < (j : Int) + 1 by omega)
    · rw [if_neg h1]
      split
      · rw [List.filter_eq_nil_iff.2]
        intro x hx
        obtain ⟨o, _, rfl⟩ := List.mem_map.1 hx
        have : ¬ (g' : Int) < (j : Int) + 1 := by omega
        exact fun hc => this (of_decide_eq_true hc)
      · rfl
theorem keptN_le (hg : j ≤ g) : keptN all g j = [] := by
  rw [List.eq_nil_iff_forall_not_mem]
  intro x hx
  obtain ⟨i, h1, h2, _⟩ := keptN_mem.1 hx
  omega
theorem keptN_nums {x : Kp} (h : x ∈ keptN all g j) : 1 ≤ x.1.2 ∧ x.1.2 ≤ j ∧ (g : Int) < x.1.2 := by
  obtain ⟨i, h1, h2, o, _, rfl⟩ := keptN_mem.1 h
  simp [en]
  omega
theorem keptN_len : ∀ {j}, (keptN all g j).length ≤ ((all.take j).map List.length).sum
  | 0 => Nat.le_refl _
  | j + 1 => by
    unfold keptN
    rw [List.length_append]
    have ih := keptN_len (j := j)
    by_cases hj : j < all.length
    · have e : all.take (j + 1) = all.take j ++ [all[j]] := List.take_succ_eq_append_getElem hj
      have e2 : all.getD j [] = all[j] := by simp [List.getD, List.getElem?_eq_getElem hj]
      have h2 := firstsK_len (l := all[j]) all[j].length
      rw [e, List.map_append, List.sum_append, e2]
      have h3 : (if g ≤ j then (firsts all[j]).map (en all j) else []).length ≤ all[j].length := by
        split
        · rw [List.length_map]; exact h2
        · simp
      simp only [List.map_cons, List.map_nil, List.sum_cons, List.sum_nil]
      omega
    · have e2 : all.getD j [] = [] := by simp [List.getD, List.getElem?_eq_none (show all.length ≤ j by omega)]
      have h3 : (if g ≤ j then (firsts (all.getD j [])).map (en all j) else []).length = 0 := by
        rw [e2]
        split <;> rfl
      rw [List.take_of_length_le (by omega)] at ih
      rw [List.take_of_length_le (by omega)]
      omega
end

/-! a commit, change by change -/
section
variable {all : List (List Ol)} {l : List Ol} {g k : Nat} {o : Ol} {b : Int}
def lastK (all : List (List Ol)) (l : List Ol) (k : Nat) (b : Int) : Nat := if (inn (l.take k) b).isSome = true then all.length + 1 else lastN all b all.length
def keptK (all : List (List Ol)) (g : Nat) (l : List Ol) (k : Nat) : List Kp := kept all g ++ (firstsK l k).map (en all all.length)
theorem lastK_zero : lastK all l 0 b = lastN all b all.length := by simp [lastK, inn]
theorem keptK_zero : keptK all g l 0 = kept all g := by simp [keptK, firstsK]
theorem lastK_end : lastK all l l.length b = lastN (all ++ [l]) b (all ++ [l]).length := by
  unfold lastK
  rw [List.take_length, List.length_append, List.length_singleton]
  have e : (all ++ [l]).getD all.length [] = l := by simp [List.getD]
  conv => rhs; unfold lastN
  rw [e, lastN_app (Nat.le_refl _)]
theorem keptK_end (hg : g ≤ all.length) : keptK all g l l.length = kept (all ++ [l]) g := by
  unfold keptK kept
  rw [List.length_append, List.length_singleton]
  have e : (all ++ [l]).getD all.length [] = l := by simp [List.getD]
  conv => rhs; unfold keptN
  have e2 : en (all ++ [l]) all.length = en all all.length := by
    funext o
    unfold en
    rw [lastN_app (Nat.le_refl _)]
  rw [e, keptN_app (Nat.le_refl _), if_pos hg, e2]
  rfl
/-- it stands twice -/
theorem twice_iff : lastK all l k b = all.length + 1 ↔ (inn (l.take k) b).isSome = true := by
  unfold lastK
  have := lastN_le (all := all) (b := b) all.length
  split
  · simp [*]
  · simp [*]; omega
theorem lastK_old (h : l[k]? = some o) (ht : lastK all l k o.b = all.length + 1) : lastK all l (k + 1) = lastK all l k := by
  funext b
  have h1 := twice_iff.1 ht
  unfold lastK
  rw [inn_take h]
  by_cases e : o.b = b
  · subst e
    cases hh : inn (l.take k) o.b with
    | none => rw [hh] at h1; cases h1
    | some y => rfl
  · rw [if_neg e, Option.or_none]
theorem keptK_old (h : l[k]? = some o) (ht : lastK all l k o.b = all.length + 1) : keptK all g l (k + 1) = keptK all g l k := by
  unfold keptK
  rw [firstsK_old h (twice_iff.1 ht)]
theorem fresh_inn (ht : ¬ lastK all l k b = all.length + 1) : inn (l.take k) b = none := by
  cases hh : inn (l.take k) b with
  | none => rfl
  | some y => exact absurd (twice_iff.2 (by rw [hh]; rfl)) ht
theorem lastK_new (h : l[k]? = some o) : lastK all l (k + 1) = fun x => if x = o.b then all.length + 1 else lastK all l k x := by
  funext b
  unfold lastK
  rw [inn_take h]
  by_cases e : b = o.b
  · subst e
    rw [if_pos rfl, if_pos rfl]
    cases inn (l.take k) o.b <;> simp
  · rw [if_neg (c := o.b = b) (fun e2 => e e2.symm), Option.or_none, if_neg (c := b = o.b) e]
theorem keptK_new (h : l[k]? = some o) (ht : ¬ lastK all l k o.b = all.length + 1) : keptK all g l (k + 1) = keptK all g l k ++ [((o.b, (all.length : Int) + 1), (o, (lastK all l k o.b : Int)))] := by
  have h0 := fresh_inn ht
  have h1 : lastK all l k o.b = lastN all o.b all.length := by unfold lastK; rw [h0]; rfl
  unfold keptK
  rw [firstsK_new h h0, List.map_append, ← List.append_assoc, h1]
  rfl
theorem keptK_pw (hk : k ≤ l.length) : (keptK all g l k).Pairwise fun x y => x.1 ≠ y.1 := by
  unfold keptK
  rw [List.pairwise_append]
  refine ⟨keptN_pw, en_pw all _ (firstsK_pw hk), fun x hx y hy e => ?_⟩
  have h1 := keptN_nums hx
  obtain ⟨o', _, rfl⟩ := List.mem_map.1 hy
  have h2 : x.1.2 = (all.length : Int) + 1 := by rw [e]; rfl
  omega
theorem keptK_fresh (hk : k ≤ l.length) (ht : ¬ lastK all l k o.b = all.length + 1) : ∀ x ∈ keptK all g l k, x.1 ≠ (o.b, (all.length : Int) + 1) := by
  intro x hx e
  unfold keptK at hx
  rcases List.mem_append.1 hx with hx | hx
  · have h1 := keptN_nums hx
    have h2 : x.1.2 = (all.length : Int) + 1 := by rw [e]
    omega
  · obtain ⟨y, hy, rfl⟩ := List.mem_map.1 hx
    have h1 := (firstsK_iff hk y).1 hy
    have h2 : y.b = o.b := congrArg Prod.fst e
    rw [h2, fresh_inn ht] at h1
    cases h1
theorem lastK_le : lastK all l k b ≤ all.length + 1 := by
  unfold lastK
  have := lastN_le (all := all) (b := b) all.length
  split <;> omega
end

/-! what is read, backward -/
section
variable {all : List (List Ol)} {g j : Nat} {b n : Int}
/-- from which commit on -/
def from_ (g : Nat) (n : Int) : Nat := max g n.toNat
/-- what holds ahead of each round: c is the last of the first j commits that changed it; what was found comes of those behind -/
structure Bk (all : List (List Ol)) (g : Nat) (b n : Int) (c j : Nat) (f : Option Ol) : Prop where
  last : c = lastN all b j
  le : j ≤ all.length
  gone : g ≤ j
  ahead : n ≤ j ∨ j = all.length
  found : f = rdF all b j
theorem Bk.start (hg : g ≤ all.length) : Bk all g b n (lastN all b all.length) all.length none := ⟨rfl, Nat.le_refl _, hg, .inr rfl, (rdF_end (Nat.le_refl _)).symm⟩
theorem Bk.ends {c : Nat} {f : Option Ol} (h : Bk all g b n c j f) (hc : ¬ (n < (c : Int) ∧ g < c)) : f = rdF all b (from_ g n) := by
  obtain ⟨h1, h2, h3, h4, h5⟩ := h
  have hle := lastN_le (all := all) (b := b) j
  rw [h5]
  unfold from_
  by_cases hm : max g n.toNat ≤ j
  · refine (rdF_over hm fun i hi hj => lastN_none ?_ hj).symm
    omega
  · have : j = all.length := by omega
    rw [rdF_end (by omega), rdF_end (by omega)]
/-- one change more -/
theorem Bk.more {c : Nat} {f : Option Ol} (h : Bk all g b n c j f) (h1 : n < (c : Int)) (h2 : g < c) : ∃ o, inn (all.getD (c - 1) []) b = some o ∧ ((b, (c : Int)), (o, (lastN all b (c - 1) : Int))) ∈ kept all g ∧ Bk all g b n (lastN all b (c - 1)) (c - 1) (some o) ∧ o.b = b := by
  obtain ⟨k1, k2, k3, k4, k5⟩ := h
  have hle := lastN_le (all := all) (b := b) j
  have hin := lastN_in (all := all) (b := b) (j := j) (by omega)
  rw [← k1] at hin hle
  obtain ⟨o, ho⟩ := Option.isSome_iff_exists.1 hin
  have hob := (inn_b ho).1
  refine ⟨o, ho, ?_, ⟨rfl, by omega, by omega, .inl (by omega), (rdF_hit (by omega) ho).symm⟩, hob⟩
  refine keptN_mem.2 ⟨c - 1, by omega, by omega, o, by rw [hob]; exact ho, ?_⟩
  unfold en
  rw [hob, show ((c - 1 : Nat) : Int) + 1 = c by omega]
theorem kept_gone {c : Nat} (h : c ≤ g) : ∀ x ∈ kept all g, x.1 ≠ (b, (c : Int)) := by
  intro x hx e
  have h1 := keptN_nums hx
  have h2 : x.1.2 = (c : Int) := by rw [e]
  omega
end
end Snap
end Go.Proofs.Ytjjomfpkdbfhdaa

/-
  Package scan, as plain mathematics: records found, those that follow one another; the order in which they are told.
-/
import Derived.Test.YtkbgogofedppgaaRc0
namespace Go.Proofs.Ytkbgogofedppgaa
open Rec
set_option linter.unusedVariables false

namespace Scan
/-- a found record: its place's number, and the record -/
structure Fo where
  pl : Int
  r : Rc
abbrev fo0 : Fo := ⟨0, rc0⟩
/-- its fields are in their types -/
def FIn (f : Fo) : Prop := In f.r
theorem fo0_in : FIn fo0 := rc0_in
/-- those that follow one another behind a number -/
def chainS : List Fo → Int → List Fo
  | [], _ => []
  | f :: l, s => if f.r.seq = s + 1 then f :: chainS l (s + 1) else chainS l s
theorem chain_yes {f : Fo} {l : List Fo} {s : Int} (h : f.r.seq = s + 1) : chainS (f :: l) s = f :: chainS l (s + 1) := if_pos h
theorem chain_no {f : Fo} {l : List Fo} {s : Int} (h : ¬ f.r.seq = s + 1) : chainS (f :: l) s = chainS l s := if_neg h
theorem chain_mem : ∀ {l : List Fo} {s : Int} {f : Fo}, f ∈ chainS l s → f ∈ l
  | [], s, f, h => by cases h
  | g :: l, s, f, h => by
    by_cases hg : g.r.seq = s + 1
    · rw [chain_yes hg] at h
      rcases List.mem_cons.1 h with rfl | h
      · exact List.mem_cons_self
      · exact List.mem_cons_of_mem _ (chain_mem h)
    · rw [chain_no hg] at h
      exact List.mem_cons_of_mem _ (chain_mem h)
theorem chain_length : ∀ (l : List Fo) (s : Int), (chainS l s).length ≤ l.length
  | [], s => Nat.le_refl _
  | g :: l, s => by
    by_cases hg : g.r.seq = s + 1
    · rw [chain_yes hg]
      have := chain_length l (s + 1)
      simp; omega
    · rw [chain_no hg]
      have := chain_length l s
      simp; omega
/-- the numbers rise by one -/
theorem chain_seq : ∀ {l : List Fo} {s : Int} {i : Nat} {f : Fo}, (chainS l s)[i]? = some f → f.r.seq = s + 1 + i
  | [], s, i, f, h => by simp [chainS] at h
  | g :: l, s, i, f, h => by
    by_cases hg : g.r.seq = s + 1
    · rw [chain_yes hg] at h
      cases i with
      | zero =>
        obtain rfl : g = f := by simpa using h
        simpa using hg
      | succ i =>
        have := chain_seq (l := l) (s := s + 1) (i := i) (by simpa using h)
        omega
    · rw [chain_no hg] at h
      exact chain_seq h
theorem chain_drop {l : List Fo} {k : Nat} (s : Int) (h : k < l.length) : chainS (l.drop k) s = if (l[k]'h).r.seq = s + 1 then l[k]'h :: chainS (l.drop (k + 1)) (s + 1) else chainS (l.drop (k + 1)) s := by
  rw [List.drop_eq_getElem_cons h]
  rfl
/-- what follows one another follows one another by itself -/
theorem chain_self : ∀ (l : List Fo) (s : Int), chainS (chainS l s) s = chainS l s
  | [], s => rfl
  | g :: l, s => by
    by_cases hg : g.r.seq = s + 1
    · rw [chain_yes hg, chain_yes hg, chain_self l (s + 1)]
    · rw [chain_no hg, chain_self l s]
theorem chain_none : ∀ {l : List Fo} {s : Int}, (∀ f ∈ l, ¬ f.r.seq = s + 1) → chainS l s = []
  | [], s, _ => rfl
  | g :: l, s, h => by
    rw [chain_no (h g List.mem_cons_self)]
    exact chain_none fun f hf => h f (List.mem_cons_of_mem _ hf)
/-- behind its end nothing goes on -/
theorem chain_end (l : List Fo) (s : Int) : chainS (chainS l s) (s + (chainS l s).length) = [] := by
  refine chain_none fun f hf => ?_
  obtain ⟨i, hi, rfl⟩ := List.getElem_of_mem hf
  have := chain_seq (List.getElem?_eq_getElem hi)
  omega
/-- the next one is looked for -/
theorem chain_skip {l : List Fo} {s : Int} : ∀ (d : Nat) {i j : Nat}, j = i + d → j ≤ l.length → (∀ k (h : k < l.length), i ≤ k → k < j → ¬ (l[k]'h).r.seq = s + 1) → chainS (l.drop i) s = chainS (l.drop j) s
  | 0, i, j, e, _, _ => by
    obtain rfl : j = i := by omega
    rfl
  | d + 1, i, j, e, hj, h => by
    have hi : i < l.length := by omega
    rw [chain_drop s hi, if_neg (h i hi (Nat.le_refl _) (by omega))]
    exact chain_skip d (by omega) hj fun k hk h1 h2 => h k hk (by omega) h2

/-! the order -/
def cmpI (a b : Int) : Int := if a < b then -1 else if b < a then 1 else 0
/-- the first one that isn't nought -/
def orI (a b : Int) : Int := if a = 0 then b else a
def cfS (x y : Fo) : Int := orI (cmpI x.r.seq y.r.seq) (cmpI x.pl y.pl)
/-- x is told ahead of y -/
def Lt (x y : Fo) : Prop := x.r.seq < y.r.seq ∨ (x.r.seq = y.r.seq ∧ x.pl < y.pl)
instance (x y : Fo) : Decidable (Lt x y) := by unfold Lt; exact inferInstance
theorem cmpI_neg {a b : Int} : cmpI a b < 0 ↔ a < b := by
  unfold cmpI
  by_cases h : a < b
  · simp [h]
  · rw [if_neg h]
    by_cases h2 : b < a <;> simp [h2, h]
theorem cmpI_zero {a b : Int} : cmpI a b = 0 ↔ a = b := by
  unfold cmpI
  by_cases h : a < b
  · simp [h]; omega
  · rw [if_neg h]
    by_cases h2 : b < a <;> simp [h2] <;> omega
theorem cfS_neg {x y : Fo} : cfS x y < 0 ↔ Lt x y := by
  unfold cfS orI Lt
  by_cases h : x.r.seq = y.r.seq
  · rw [if_pos (cmpI_zero.2 h), cmpI_neg]
    constructor
    · exact fun h2 => .inr ⟨h, h2⟩
    · rintro (h2 | h2)
      · omega
      · exact h2.2
  · rw [if_neg (fun e => h (cmpI_zero.1 e)), cmpI_neg]
    constructor
    · exact .inl
    · rintro (h2 | h2)
      · exact h2
      · exact absurd h2.1 h
theorem lt_irrefl (x : Fo) : ¬ Lt x x := by unfold Lt; omega
theorem lt_trans {x y z : Fo} (h1 : Lt x y) (h2 : Lt y z) : Lt x z := by unfold Lt at *; omega
theorem lt_asymm {x y : Fo} (h1 : Lt x y) : ¬ Lt y x := fun h2 => lt_irrefl x (lt_trans h1 h2)
/-- there is one rising list of them -/
theorem sorted_one : ∀ {a b : List Fo}, a.Perm b → a.Pairwise Lt → b.Pairwise Lt → a = b
  | [], b, h, _, _ => (List.nil_perm.1 h).symm
  | x :: a, [], h, _, _ => by simpa using List.perm_nil.1 h
  | x :: a, y :: b, h, ha, hb => by
    have hx := List.pairwise_cons.1 ha
    have hy := List.pairwise_cons.1 hb
    have e : x = y := by
      have h1 : x ∈ y :: b := h.mem_iff.1 List.mem_cons_self
      have h2 : y ∈ x :: a := h.mem_iff.2 List.mem_cons_self
      rcases List.mem_cons.1 h1 with h1 | h1
      · exact h1
      · rcases List.mem_cons.1 h2 with h2 | h2
        · exact h2.symm
        · exact absurd (hy.1 x h1) (lt_asymm (hx.1 y h2))
    subst e
    rw [sorted_one (List.perm_cons x |>.1 h) hx.2 hy.2]
/-- L is what is told of these -/
def Tells (l L : List Fo) : Prop := L.Perm l ∧ L.Pairwise Lt
theorem Tells.one {l L M : List Fo} (h : Tells l L) (k : Tells l M) : L = M := sorted_one (h.1.trans k.1.symm) h.2 k.2
theorem Tells.nil : Tells [] [] := ⟨List.Perm.refl _, List.Pairwise.nil⟩
theorem Tells.length {l L : List Fo} (h : Tells l L) : L.length = l.length := h.1.length_eq
/-- one more is put in its place: behind the last one that isn't above it -/
theorem Tells.put {l L : List Fo} {x : Fo} {k : Nat} (h : Tells l L) (hk : k ≤ L.length) (hp : ∀ y ∈ L, y.pl < x.pl) (h1 : ∀ j (hj : j < L.length), k ≤ j → x.r.seq < (L[j]'hj).r.seq) (h2 : ∀ (hk0 : 0 < k), ¬ x.r.seq < (L[k - 1]'(by omega)).r.seq) : Tells (l ++ [x]) (L.take k ++ x :: L.drop k) := by
  have hP : (L.take k ++ x :: L.drop k).Perm (l ++ [x]) := by
    refine List.perm_middle.trans ?_
    rw [List.take_append_drop]
    exact (List.Perm.cons x h.1).trans (List.perm_append_singleton x l).symm
  refine ⟨hP, List.pairwise_append.2 ⟨h.2.sublist (List.take_sublist _ _), List.pairwise_cons.2 ⟨fun y hy => ?_, h.2.sublist (List.drop_sublist _ _)⟩, fun a ha b hb => ?_⟩⟩
  · obtain ⟨j, hj, rfl⟩ := List.getElem_of_mem hy
    rw [List.getElem_drop]
    exact .inl (h1 _ _ (by omega))
  · have hxa : Lt a x := by
      obtain ⟨i, hi, rfl⟩ := List.getElem_of_mem ha
      have hik : i < k := by simp at hi; omega
      have hiL : i < L.length := by omega
      rw [List.getElem_take]
      have h3 := h2 (by omega)
      have hpl := hp (L[i]'hiL) (List.getElem_mem hiL)
      have hle : (L[i]'hiL).r.seq ≤ (L[k - 1]'(by omega)).r.seq := by
        by_cases e : i = k - 1
        · subst e; exact Int.le_refl _
        · have := List.pairwise_iff_getElem.1 h.2 i (k - 1) hiL (by omega) (by omega)
          unfold Lt at this
          omega
      unfold Lt
      omega
    rcases List.mem_cons.1 hb with rfl | hb
    · exact hxa
    · obtain ⟨j, hj, rfl⟩ := List.getElem_of_mem hb
      rw [List.getElem_drop]
      exact lt_trans hxa (.inl (h1 _ _ (by omega)))

/-! a rising list of unlike numbers -/
abbrev Up (L : List Fo) : Prop := L.Pairwise fun x y => x.r.seq < y.r.seq
theorem Tells.up {l L : List Fo} (h : Tells l L) (hi : ∀ x ∈ l, ∀ y ∈ l, x.r.seq = y.r.seq → x = y) : Up L := by
  have hm : ∀ x, x ∈ L → x ∈ l := fun x hx => h.1.mem_iff.1 hx
  refine List.Pairwise.imp_of_mem (fun {a b} ha hb hab => ?_) h.2
  rcases hab with h1 | h1
  · exact h1
  · have := hi a (hm a ha) b (hm b hb) h1.1
    subst this
    omega
/-- of a rising list: those that follow one another are its beginning, and the next number isn't there -/
theorem up_chain : ∀ {L : List Fo} {s : Int}, Up L → (∀ x ∈ L, s < x.r.seq) → chainS L s = L.take (chainS L s).length ∧ ∀ x ∈ L, ¬ x.r.seq = s + (chainS L s).length + 1
  | [], s, _, _ => ⟨rfl, fun x hx => by cases hx⟩
  | f :: L, s, h, hs => by
    have hc := List.pairwise_cons.1 h
    by_cases hf : f.r.seq = s + 1
    · rw [chain_yes hf]
      have ih := up_chain (s := s + 1) hc.2 fun x hx => by have := hc.1 x hx; omega
      refine ⟨by rw [List.length_cons, List.take_succ_cons, ← ih.1], fun x hx => ?_⟩
      rcases List.mem_cons.1 hx with rfl | hx
      · simp; omega
      · have := ih.2 x hx
        simp; omega
    · have h0 : chainS (f :: L) s = [] := chain_none fun x hx => by
        rcases List.mem_cons.1 hx with rfl | hx
        · exact hf
        · have := hc.1 x hx
          have := hs f List.mem_cons_self
          omega
      rw [h0]
      refine ⟨rfl, fun x hx => ?_⟩
      rcases List.mem_cons.1 hx with rfl | hx
      · simpa using hf
      · have := hc.1 x hx
        have := hs f List.mem_cons_self
        simp; omega
/-- what is left of a rising list: as many as follow one another are the beginning of all -/
theorem up_sub : ∀ {L M : List Fo} {s : Int}, Up L → Up M → (∀ x ∈ L, x ∈ M) → (∀ x ∈ M, s < x.r.seq) → chainS L s = M.take (chainS L s).length
  | [], M, s, _, _, _, _ => rfl
  | f :: L, M, s, hL, hM, hsub, hs => by
    have hc := List.pairwise_cons.1 hL
    have hsL : ∀ x ∈ f :: L, s < x.r.seq := fun x hx => hs x (hsub x hx)
    by_cases hf : f.r.seq = s + 1
    · rw [chain_yes hf]
      cases M with
      | nil => exact absurd (hsub f List.mem_cons_self) (by simp)
      | cons g M =>
        have hm := List.pairwise_cons.1 hM
        have e : f = g := by
          rcases List.mem_cons.1 (hsub f List.mem_cons_self) with h | h
          · exact h
          · have := hm.1 f h
            have := hs g List.mem_cons_self
            omega
        subst e
        have ih := up_sub (s := s + 1) (L := L) (M := M) hc.2 hm.2 (fun x hx => by
          rcases List.mem_cons.1 (hsub x (List.mem_cons_of_mem _ hx)) with h | h
          · subst h
            have := hc.1 x hx
            omega
          · exact h) fun x hx => by have := hm.1 x hx; omega
        rw [List.length_cons, List.take_succ_cons, ← ih]
    · have h0 : chainS (f :: L) s = [] := chain_none fun x hx => by
        rcases List.mem_cons.1 hx with rfl | hx
        · exact hf
        · have := hc.1 x hx
          have := hsL f List.mem_cons_self
          omega
      rw [h0]
      rfl
/-- as many are left as there were: all are -/
theorem up_all : ∀ {L M : List Fo}, Up L → Up M → (∀ x ∈ L, x ∈ M) → M.length ≤ L.length → L = M
  | [], M, _, _, _, h => by
    cases M with
    | nil => rfl
    | cons g M => simp at h
  | f :: L, [], _, _, hs, _ => absurd (hs f List.mem_cons_self) (by simp)
  | f :: L, g :: M, hL, hM, hs, h => by
    have hc := List.pairwise_cons.1 hL
    have hm := List.pairwise_cons.1 hM
    by_cases e : f = g
    · subst e
      rw [up_all hc.2 hm.2 (fun x hx => by
        rcases List.mem_cons.1 (hs x (List.mem_cons_of_mem _ hx)) with h | h
        · subst h
          have := hc.1 x hx
          omega
        · exact h) (by simpa using h)]
    · have hfM : f ∈ M := by
        rcases List.mem_cons.1 (hs f List.mem_cons_self) with h | h
        · exact absurd h e
        · exact h
      have hgf := hm.1 f hfM
      have hsM : ∀ x ∈ f :: L, x ∈ M := fun x hx => by
        rcases List.mem_cons.1 (hs x hx) with h1 | h1
        · subst h1
          rcases List.mem_cons.1 hx with h2 | h2
          · exact absurd h2.symm e
          · have := hc.1 x h2
            omega
        · exact h1
      have hn : (f :: L).length ≤ M.length := by
        have hd : (f :: L).Nodup := hL.imp fun {a b} hab e => by subst e; omega
        exact List.Nodup.length_le_of_subset hd hsM
      simp at h hn
      omega
end Scan
end Go.Proofs.Ytkbgogofedppgaa

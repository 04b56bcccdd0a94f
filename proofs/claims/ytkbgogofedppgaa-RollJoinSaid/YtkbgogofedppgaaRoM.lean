/-
  Package roll, as plain mathematics: groups of records, and where they let blocks stand.
-/
import Derived.Test.YtkbgogofedppgaaScM
namespace Go.Proofs.Ytkbgogofedppgaa
open Rec Scan
set_option linter.unusedVariables false

namespace Roll
/-- a change: a block, and where it stands -/
structure Ch where
  b : Int
  p : Int
/-- what a Commit holds together -/
structure Gp where
  own : Bool
  seq : Int
  ch : List Ch
def chOf (f : Fo) : Ch := ⟨f.r.block, if f.r.kind = 1 then f.pl else 0⟩
def gpOf (f : Fo) (c : List Ch) : Gp := ⟨decide (f.r.block = 1), f.r.seq, c⟩
/-- one record more: the groups, and the changes behind the last Commit -/
def rollS (s : List Gp × List Ch) (f : Fo) : List Gp × List Ch :=
  if f.r.kind = 3 then (if f.r.count = s.2.length then s.1 ++ [gpOf f s.2] else s.1, []) else (s.1, s.2 ++ [chOf f])
def rollG (l : List Fo) : List Gp × List Ch := l.foldl rollS ([], [])
def groups (l : List Fo) : List Gp := (rollG l).1
def pend (l : List Fo) : List Ch := (rollG l).2
theorem rollG_snoc (l : List Fo) (f : Fo) : rollG (l ++ [f]) = rollS (rollG l) f := by simp [rollG]
theorem rollS_yes {s : List Gp × List Ch} {f : Fo} (h : f.r.kind = 3) (hc : f.r.count = s.2.length) : rollS s f = (s.1 ++ [gpOf f s.2], []) := by
  unfold rollS
  rw [if_pos h, if_pos hc]
theorem rollS_bad {s : List Gp × List Ch} {f : Fo} (h : f.r.kind = 3) (hc : ¬ f.r.count = s.2.length) : rollS s f = (s.1, []) := by
  unfold rollS
  rw [if_pos h, if_neg hc]
theorem rollS_no {s : List Gp × List Ch} {f : Fo} (h : ¬ f.r.kind = 3) : rollS s f = (s.1, s.2 ++ [chOf f]) := if_neg h
theorem pend_commit {l : List Fo} {f : Fo} (h : f.r.kind = 3) : pend (l ++ [f]) = [] := by
  unfold pend
  rw [rollG_snoc]
  by_cases hc : f.r.count = (rollG l).2.length
  · rw [rollS_yes h hc]
  · rw [rollS_bad h hc]
theorem pend_no {l : List Fo} {f : Fo} (h : ¬ f.r.kind = 3) : pend (l ++ [f]) = pend l ++ [chOf f] := by
  unfold pend
  rw [rollG_snoc, rollS_no h]
theorem groups_no {l : List Fo} {f : Fo} (h : ¬ f.r.kind = 3) : groups (l ++ [f]) = groups l := by
  unfold groups
  rw [rollG_snoc, rollS_no h]
theorem groups_yes {l : List Fo} {f : Fo} (h : f.r.kind = 3) (hc : f.r.count = (pend l).length) : groups (l ++ [f]) = groups l ++ [gpOf f (pend l)] := by
  unfold groups
  rw [rollG_snoc, rollS_yes h hc]
  rfl
theorem groups_bad {l : List Fo} {f : Fo} (h : f.r.kind = 3) (hc : ¬ f.r.count = (pend l).length) : groups (l ++ [f]) = groups l := by
  unfold groups
  rw [rollG_snoc, rollS_bad h hc]
theorem roll_fold : ∀ (l : List Fo) (g : List Gp) (c : List Ch), l.foldl rollS (g, c) = (g ++ (l.foldl rollS ([], c)).1, (l.foldl rollS ([], c)).2)
  | [], g, c => by simp
  | f :: l, g, c => by
    rw [List.foldl_cons, List.foldl_cons]
    by_cases h : f.r.kind = 3
    · by_cases hc : f.r.count = c.length
      · rw [rollS_yes (s := (g, c)) h hc, rollS_yes (s := ([], c)) h hc, roll_fold l (g ++ [gpOf f c]) [], roll_fold l ([] ++ [gpOf f c]) []]
        simp
      · rw [rollS_bad (s := (g, c)) h hc, rollS_bad (s := ([], c)) h hc]
        exact roll_fold l g []
    · rw [rollS_no (s := (g, c)) h, rollS_no (s := ([], c)) h]
      exact roll_fold l g (c ++ [chOf f])
theorem groups_append (a b : List Fo) : groups (a ++ b) = groups a ++ (b.foldl rollS ([], pend a)).1 := by
  unfold groups rollG
  rw [List.foldl_append, roll_fold b]
  rfl
theorem groups_join {a : List Fo} (b : List Fo) (h : pend a = []) : groups (a ++ b) = groups a ++ groups b := by
  rw [groups_append, h]
  rfl
theorem groups_cut (l : List Fo) (k : Nat) : groups (l.take k) = (groups l).take (groups (l.take k)).length ∧ (groups (l.take k)).length ≤ (groups l).length := by
  have h : groups l = groups (l.take k) ++ ((l.drop k).foldl rollS ([], pend (l.take k))).1 := by
    rw [← groups_append, List.take_append_drop]
  refine ⟨?_, ?_⟩
  · rw [h, List.take_left]
  · rw [h, List.length_append]
    omega
/-- how far the Commit ahead stands -/
theorem pend_at (l : List Fo) (j : Nat) (h0 : j = 0 ∨ ∃ f, l[j - 1]? = some f ∧ f.r.kind = 3) : ∀ i, j ≤ i → i ≤ l.length → (∀ m f, j ≤ m → m < i → l[m]? = some f → ¬ f.r.kind = 3) → pend (l.take i) = ((l.take i).drop j).map chOf
  | i, hj, hi, hn => by
    by_cases hij : i = j
    · subst hij
      rw [List.drop_eq_nil_of_le (by rw [List.length_take]; omega)]
      rcases h0 with rfl | ⟨f, hf, hk⟩
      · rfl
      · rcases Nat.eq_zero_or_pos i with rfl | hp
        · rfl
        · have hlt : i - 1 < l.length := by omega
          have e : l.take i = l.take (i - 1) ++ [f] := by
            have := List.take_succ_eq_append_getElem hlt
            rw [show i - 1 + 1 = i by omega] at this
            rw [this]
            rw [List.getElem?_eq_getElem hlt] at hf
            injection hf with hf
            rw [hf]
          rw [e, pend_commit hk]
          rfl
    · have hlt : i - 1 < l.length := by omega
      have e : l.take i = l.take (i - 1) ++ [l[i - 1]] := by
        have := List.take_succ_eq_append_getElem hlt
        rw [show i - 1 + 1 = i by omega] at this
        exact this
      have hk := hn (i - 1) _ (by omega) (by omega) (List.getElem?_eq_getElem hlt)
      have ih := pend_at l j h0 (i - 1) (by omega) (by omega) fun m f h1 h2 h3 => hn m f h1 (by omega) h3
      rw [e, pend_no hk, ih, List.drop_append_of_le_length (by rw [List.length_take]; omega)]
      simp
  termination_by i => i - j
/-- a change, done to places -/
def doC (P : List Int) (c : Ch) : List Int := if 0 ≤ c.b ∧ c.b < P.length then P.set c.b.toNat c.p else P
def doG (P : List Int) (g : Gp) : List Int := g.ch.foldl doC P
def doS (P : List Int) (l : List Gp) : List Int := l.foldl doG P
theorem doC_length (P : List Int) (c : Ch) : (doC P c).length = P.length := by
  unfold doC
  split <;> simp
theorem doCs_length : ∀ (c : List Ch) (P : List Int), (c.foldl doC P).length = P.length
  | [], P => rfl
  | x :: c, P => by rw [List.foldl_cons, doCs_length c, doC_length]
theorem doS_length : ∀ (l : List Gp) (P : List Int), (doS P l).length = P.length
  | [], P => rfl
  | g :: l, P => by
    show (doS (doG P g) l).length = _
    rw [doS_length l, doG, doCs_length]
theorem doS_append (P : List Int) (a b : List Gp) : doS P (a ++ b) = doS (doS P a) b := by simp [doS]
theorem doS_snoc (P : List Int) (a : List Gp) (g : Gp) : doS P (a ++ [g]) = doG (doS P a) g := by simp [doS]
/-- block by block: its last change -/
def lastC (b : Int) (p : Int) (c : Ch) : Int := if c.b = b then c.p else p
def lastG (b : Int) (p : Int) (g : Gp) : Int := g.ch.foldl (lastC b) p
def lastS (b : Int) (p : Int) (l : List Gp) : Int := l.foldl (lastG b) p
theorem doC_at {P : List Int} {b : Nat} {p : Int} (c : Ch) (h : P[b]? = some p) : (doC P c)[b]? = some (lastC b p c) := by
  have hb := (List.getElem?_eq_some_iff.1 h).1
  unfold doC lastC
  by_cases hc : 0 ≤ c.b ∧ c.b < P.length
  · rw [if_pos hc, List.getElem?_set]
    by_cases e : c.b.toNat = b
    · rw [if_pos e, if_pos (by omega), if_pos (by omega)]
    · rw [if_neg e, if_neg (by omega)]
      exact h
  · rw [if_neg hc, if_neg (by omega)]
    exact h
theorem doCs_at {b : Nat} : ∀ (c : List Ch) {P : List Int} {p : Int}, P[b]? = some p → (c.foldl doC P)[b]? = some (c.foldl (lastC b) p)
  | [], P, p, h => h
  | x :: c, P, p, h => doCs_at c (doC_at x h)
theorem doS_at {b : Nat} : ∀ (l : List Gp) {P : List Int} {p : Int}, P[b]? = some p → (doS P l)[b]? = some (lastS b p l)
  | [], P, p, h => h
  | g :: l, P, p, h => doS_at l (P := doG P g) (p := lastG b p g) (doCs_at g.ch h)
/-- how many are not the cleaner's -/
def users (l : List Gp) : Nat := (l.filter fun g => !g.own).length
theorem users_append (a b : List Gp) : users (a ++ b) = users a + users b := by simp [users]
theorem users_le (l : List Gp) : users l ≤ l.length := List.length_filter_le _ _
theorem users_snoc (a : List Gp) (g : Gp) : users (a ++ [g]) = users a + if g.own = true then 0 else 1 := by
  rw [users_append]
  unfold users
  cases h : g.own <;> simp [h]
/-- how much there is -/
theorem fold_len : ∀ (l : List Fo) (g : List Gp) (c : List Ch), (l.foldl rollS (g, c)).1.length ≤ g.length + l.length ∧ (l.foldl rollS (g, c)).2.length ≤ c.length + l.length
  | [], g, c => ⟨Nat.le_refl _, Nat.le_refl _⟩
  | f :: l, g, c => by
    rw [List.foldl_cons, List.length_cons]
    by_cases h : f.r.kind = 3
    · by_cases hc : f.r.count = c.length
      · rw [rollS_yes (s := (g, c)) h hc]
        dsimp only
        have := fold_len l (g ++ [gpOf f c]) []
        simp only [List.length_append, List.length_singleton, List.length_nil] at this
        omega
      · rw [rollS_bad (s := (g, c)) h hc]
        dsimp only
        have := fold_len l g []
        simp only [List.length_nil] at this
        omega
    · rw [rollS_no (s := (g, c)) h]
      dsimp only
      have := fold_len l g (c ++ [chOf f])
      simp only [List.length_append, List.length_singleton] at this
      omega
theorem groups_len (l : List Fo) : (groups l).length ≤ l.length ∧ (pend l).length ≤ l.length := by
  have := fold_len l [] []
  simp only [List.length_nil, Nat.zero_add] at this
  exact this
/-- the changes of all groups -/
def chs (l : List Gp) : List Ch := l.flatMap Gp.ch
theorem doS_chs : ∀ (l : List Gp) (P : List Int), doS P l = (chs l).foldl doC P
  | [], P => rfl
  | g :: l, P => by
    show doS (doG P g) l = (g.ch ++ chs l).foldl doC P
    rw [doS_chs l, List.foldl_append]
    rfl
theorem fold_chs : ∀ (l : List Fo) (g : List Gp) (c : List Ch), (chs (l.foldl rollS (g, c)).1).length + (l.foldl rollS (g, c)).2.length ≤ (chs g).length + c.length + l.length
  | [], g, c => Nat.le_refl _
  | f :: l, g, c => by
    rw [List.foldl_cons, List.length_cons]
    by_cases h : f.r.kind = 3
    · by_cases hc : f.r.count = c.length
      · rw [rollS_yes (s := (g, c)) h hc]
        dsimp only
        have := fold_chs l (g ++ [gpOf f c]) []
        have e : (chs (g ++ [gpOf f c])).length = (chs g).length + c.length := by simp [chs, gpOf]
        rw [e, List.length_nil] at this
        omega
      · rw [rollS_bad (s := (g, c)) h hc]
        dsimp only
        have := fold_chs l g []
        rw [List.length_nil] at this
        omega
    · rw [rollS_no (s := (g, c)) h]
      dsimp only
      have := fold_chs l g (c ++ [chOf f])
      rw [List.length_append, List.length_singleton] at this
      omega
theorem chs_len (l : List Fo) : (chs (groups l)).length ≤ l.length := by
  have := fold_chs l [] []
  have e : (chs []).length + ([] : List Ch).length + l.length = l.length := by simp [chs]
  rw [e] at this
  exact Nat.le_trans (Nat.le_add_right _ _) this
theorem ch_len {l : List Gp} {g : Gp} (h : g ∈ l) : g.ch.length ≤ (chs l).length := by
  obtain ⟨a, b, rfl⟩ := List.append_of_mem h
  simp [chs]
  omega
end Roll
end Go.Proofs.Ytkbgogofedppgaa

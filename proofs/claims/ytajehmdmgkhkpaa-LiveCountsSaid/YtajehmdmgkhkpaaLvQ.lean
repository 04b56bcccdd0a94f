/-
  The mathematics of layer 10's laws: what Of's list tells; sums of counts.
-/
import Derived.Test.YtajehmdmgkhkpaaLvS
namespace Go.Proofs.Ytajehmdmgkhkpaa.Lv
open Geom
set_option linter.unusedVariables false

section
variable {seq size conv : Int} {l : List (Int × Int)} {ps : List Int} {n v : Int} {k : Nat}
theorem doM_ok (h : (doM seq size l n v false).2 = true) : (1 ≤ n ∧ n ≤ seq * size) ∧ lk l n = none ∧ doM seq size l n v false = (l ++ [(n, v)], true) := by
  by_cases h1 : 1 ≤ n ∧ n ≤ seq * size
  · cases h2 : lk l n with
    | none => exact ⟨h1, rfl, doM_add h1 h2⟩
    | some u =>
      rw [doM_not (by rw [h2]; simp)] at h
      cases h
  · rw [doM_out h1] at h
    cases h
/-- Of's list grows by one place, or not at all -/
theorem ofK_cases {l1 : List (Int × Int)} (h : ofK seq size ps (k + 1) = some l1) :
    (ofK seq size ps k = some l1 ∧ ps.getD k 0 = 0) ∨ ∃ l, ofK seq size ps k = some l ∧ (1 ≤ ps.getD k 0 ∧ ps.getD k 0 ≤ seq * size) ∧ lk l (ps.getD k 0) = none ∧ l1 = l ++ [(ps.getD k 0, (k : Int))] := by
  unfold ofK at h
  cases hk : ofK seq size ps k with
  | none => rw [hk] at h; cases h
  | some l =>
    rw [hk] at h
    simp only at h
    split at h
    · rename_i h0
      injection h with h
      subst h
      exact .inl ⟨rfl, h0⟩
    · split at h
      · rename_i h1
        injection h with h
        obtain ⟨h2, h3, h4⟩ := doM_ok h1
        rw [h4] at h
        exact .inr ⟨l, rfl, h2, h3, h.symm⟩
      · cases h
theorem ofK_wl : ∀ {k : Nat} {l : List (Int × Int)}, ofK seq size ps k = some l → Wl seq size l
  | 0, l, h => by
    injection h with h
    subst h
    exact Wl.nil
  | k + 1, l, h => by
    rcases ofK_cases h with ⟨h1, _⟩ | ⟨l1, h1, h2, h3, rfl⟩
    · exact ofK_wl h1
    · exact (ofK_wl h1).add (x := (ps.getD k 0, (k : Int))) h2 h3
/-- each place tells its block; no other does -/
theorem ofK_told : ∀ {k : Nat} {l : List (Int × Int)}, ofK seq size ps k = some l →
    (∀ j, j < k → 1 ≤ ps.getD j 0 ∧ ps.getD j 0 ≤ seq * size → lk l (ps.getD j 0) = some (j : Int)) ∧ (∀ m, (lk l m).isSome = true → ∃ j, j < k ∧ ps.getD j 0 = m)
  | 0, l, h => by
    injection h with h
    subst h
    exact ⟨fun j hj => absurd hj (Nat.not_lt_zero _), fun m hm => by simp [lk] at hm⟩
  | k + 1, l, h => by
    rcases ofK_cases h with ⟨h1, h0⟩ | ⟨l1, h1, h2, h3, rfl⟩
    · obtain ⟨i1, i2⟩ := ofK_told h1
      refine ⟨fun j hj hb => ?_, fun m hm => ?_⟩
      · rcases Nat.lt_or_ge j k with hlt | hge
        · exact i1 j hlt hb
        · obtain rfl : j = k := by omega
          omega
      · obtain ⟨j, hj, e⟩ := i2 m hm
        exact ⟨j, by omega, e⟩
    · obtain ⟨i1, i2⟩ := ofK_told h1
      refine ⟨fun j hj hb => ?_, fun m hm => ?_⟩
      · rw [lk_snoc]
        rcases Nat.lt_or_ge j k with hlt | hge
        · rw [i1 j hlt hb]
          simp
        · obtain rfl : j = k := by omega
          rw [h3]
          simp
      · rw [lk_snoc] at hm
        by_cases hl : (lk l1 m).isSome = true
        · obtain ⟨j, hj, e⟩ := i2 m hl
          exact ⟨j, by omega, e⟩
        · rw [if_neg hl] at hm
          by_cases he : ps.getD k 0 = m
          · exact ⟨k, by omega, he⟩
          · rw [if_neg (show ¬ ((ps.getD k 0, (k : Int)).1 = m) from he)] at hm
            cases hm
/-- the law's list of all places but one -/
def agK (ps : List Int) (place : Int) : Nat → List (Int × Int)
  | 0 => []
  | k + 1 => if ps.getD k 0 ≠ 0 ∧ ps.getD k 0 ≠ place then agK ps place k ++ [(ps.getD k 0, (k : Int))] else agK ps place k
theorem agK_yes {place : Int} (h : ps.getD k 0 ≠ 0) (h2 : ps.getD k 0 ≠ place) : agK ps place (k + 1) = agK ps place k ++ [(ps.getD k 0, (k : Int))] := if_pos ⟨h, h2⟩
theorem agK_zero {place : Int} (h : ps.getD k 0 = 0) : agK ps place (k + 1) = agK ps place k := if_neg (fun h2 => h2.1 h)
theorem agK_same {place : Int} (h : ps.getD k 0 = place) : agK ps place (k + 1) = agK ps place k := if_neg (fun h2 => h2.2 h)
theorem agK_len {place : Int} : ∀ k, (agK ps place k).length ≤ k
  | 0 => Nat.le_refl _
  | k + 1 => by
    have := agK_len (place := place) k
    unfold agK
    split
    · simp; omega
    · omega
theorem ofK_ag {place : Int} : ∀ {k : Nat} {l : List (Int × Int)}, ofK seq size ps k = some l → agK ps place k = er l place
  | 0, l, h => by
    injection h with h
    subst h
    rfl
  | k + 1, l, h => by
    have hw := ofK_wl h
    rcases ofK_cases h with ⟨h1, h0⟩ | ⟨l1, h1, h2, h3, rfl⟩
    · rw [agK_zero h0, ofK_ag h1]
    · have ih := ofK_ag (place := place) h1
      rw [er_filter (ofK_wl h1)] at ih
      rw [er_filter hw, List.filter_append]
      by_cases he : ps.getD k 0 = place
      · rw [agK_same he, ih]
        generalize ps.getD k 0 = y at *
        simp [he]
      · rw [agK_yes (by omega) he, ih]
        generalize ps.getD k 0 = y at *
        simp [he]
/-- what is dropped and added again -/
theorem again_yes {place block x : Int} (hw : Wl seq size l) (hp : 1 ≤ place ∧ place ≤ seq * size) :
    (doM seq size l place x true).1 = er l place ∧ doM seq size (er l place) place block false = (er l place ++ [(place, block)], true) := by
  refine ⟨?_, doM_add hp (by rw [lk_er hw, if_pos rfl])⟩
  cases h : lk l place with
  | none => rw [doM_not (by rw [h]; simp), er_none h]
  | some u => rw [doM_drop hp (by rw [h]; rfl)]
theorem again_no {place block x : Int} (hw : Wl seq size l) (hp : ¬ (1 ≤ place ∧ place ≤ seq * size)) :
    doM seq size l place x true = (l, false) ∧ doM seq size l place block false = (l, false) ∧ er l place = l :=
  ⟨doM_out hp, doM_out hp, er_none (lk_none.2 fun x hx e => hp (e ▸ hw.2 x hx))⟩
/-- the counts of the first k zones -/
def smC (conv seq size : Int) (l : List (Int × Int)) : Nat → Nat
  | 0 => 0
  | k + 1 => smC conv seq size l k + cn conv seq size l (k : Int)
theorem smC_succ : smC conv seq size l (k + 1) = smC conv seq size l k + cn conv seq size l (k : Int) := rfl
theorem smC_cons {x : Int × Int} (hx : 0 ≤ zoneOf conv seq size x.1) : ∀ k : Nat, smC conv seq size (x :: l) k = smC conv seq size l k + if zoneOf conv seq size x.1 < (k : Int) then 1 else 0
  | 0 => by
    rw [if_neg (by omega)]
    rfl
  | k + 1 => by
    rw [smC_succ, smC_succ, smC_cons hx k, cn_cons]
    by_cases h1 : zoneOf conv seq size x.1 < (k : Int)
    · rw [if_pos h1, if_neg (by omega), if_pos (by omega)]
      omega
    · rw [if_neg h1]
      by_cases h2 : zoneOf conv seq size x.1 = (k : Int)
      · rw [if_pos h2, if_pos (by omega)]
        omega
      · rw [if_neg h2, if_neg (by omega)]
        omega
theorem smC_nil : ∀ k : Nat, smC conv seq size [] k = 0
  | 0 => rfl
  | k + 1 => by
    rw [smC_succ, smC_nil k]
    rfl
theorem smC_all (hs : 0 < size) (hc : 0 < conv) (h : Wl seq size l) {N : Nat} (hN : conv + seq = (N : Int)) : smC conv seq size l N = l.length := by
  induction l with
  | nil => exact smC_nil N
  | cons x r ih =>
    obtain ⟨h1, _, h3⟩ := h.tail
    have hp := plN_seat (conv := conv) hs h3
    obtain ⟨p1, p2, _⟩ := hp
    simp only [plN] at p1 p2
    rw [smC_cons (by omega), ih h1, if_pos (by omega)]
    rfl
theorem smC_le : ∀ k : Nat, smC conv seq size l k ≤ k * l.length
  | 0 => Nat.zero_le _
  | k + 1 => by
    have h1 := smC_le k
    have h2 := cn_le (conv := conv) (seq := seq) (size := size) (l := l) (k : Int)
    rw [smC_succ, Nat.succ_mul]
    omega
theorem doM_len_yes {t : Ac} (h : (doM seq size l t.p t.b t.dr).2 = true) : (((doM seq size l t.p t.b t.dr).1.length : Nat) : Int) = (l.length : Int) + if t.dr = true then -1 else 1 := by
  obtain ⟨dr, p, b⟩ := t
  simp only at h ⊢
  by_cases h1 : 1 ≤ p ∧ p ≤ seq * size
  · cases dr
    · obtain ⟨_, _, h4⟩ := doM_ok h
      rw [h4]
      simp
    · cases h2 : lk l p with
      | none =>
        rw [doM_not (by rw [h2]; simp)] at h
        cases h
      | some u =>
        rw [doM_drop h1 (by rw [h2]; rfl)]
        have := er_length (l := l) (n := p) (by rw [h2]; rfl)
        simp
        omega
  · rw [doM_out h1] at h
    cases h
theorem doM_len_no {t : Ac} (h : (doM seq size l t.p t.b t.dr).2 = false) : (doM seq size l t.p t.b t.dr).1 = l := by
  unfold doM at h ⊢
  split
  · rename_i h1
    rw [if_pos h1] at h
    cases h
  · rfl
/-- the live sectors of a zone rise -/
theorem zo_sorted (z : Int) (m : Nat) : (zo conv seq size l z m).Pairwise (· < ·) := by
  unfold zo
  exact List.Pairwise.filter _ List.pairwise_lt_range
theorem zo_live {z : Int} {m o : Nat} (h : o ∈ zo conv seq size l z m) : (pv conv seq size l (z, (o : Int))).isSome = true := by
  unfold zo at h
  exact (List.mem_filter.1 h).2
end
end Go.Proofs.Ytajehmdmgkhkpaa.Lv

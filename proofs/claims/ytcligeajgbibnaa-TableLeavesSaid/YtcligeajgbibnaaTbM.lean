/-
  Package table, plain mathematics: which leaves make a table, and which one.
-/
import Derived.Test.YtcligeajgbibnaaTbL
namespace Go.Proofs.Ytcligeajgbibnaa
open Go.RowKit Leaf Tbl
set_option linter.unusedVariables false

namespace Tbl
theorem perm_range : ∀ (P : Nat) (I : List Nat), I.length = P → (∀ i, i < P → i ∈ I) → I.Perm (List.range P)
  | 0, I, hl, _ => by rw [List.eq_nil_of_length_eq_zero hl]; exact .refl _
  | P + 1, I, hl, h => by
    have hm := h P (Nat.lt_succ_self P)
    have h1 := List.perm_cons_erase hm
    have h2 : (I.erase P).length = P := by
      have := h1.length_eq
      simp at this
      omega
    have h3 := perm_range P (I.erase P) h2 (fun i hi => (List.mem_erase_of_ne (by omega)).2 (h i (by omega)))
    rw [List.range_succ]
    exact h1.trans ((List.Perm.cons P h3).trans (List.perm_append_singleton P (List.range P)).symm)
theorem nodup_le : ∀ (P : Nat) (I : List Nat), I.Nodup → (∀ i ∈ I, i < P) → I.length ≤ P
  | 0, I, _, h => by
    cases I with
    | nil => simp
    | cons x I => exact absurd (h x List.mem_cons_self) (Nat.not_lt_zero _)
  | P + 1, I, hn, h => by
    by_cases hm : P ∈ I
    · have h1 := List.perm_cons_erase hm
      have h2 := h1.nodup_iff.1 hn
      have h3 := nodup_le P (I.erase P) (List.nodup_cons.1 h2).2 (fun i hi => by
        have h4 := h i (List.mem_of_mem_erase hi)
        have h5 : i ≠ P := fun e => (List.nodup_cons.1 h2).1 (e ▸ hi)
        omega)
      have := h1.length_eq
      simp at this
      omega
    · have := nodup_le P I hn (fun i hi => by
        have h4 := h i hi
        have h5 : i ≠ P := fun e => hm (e ▸ hi)
        omega)
      omega
theorem nodup_range {P : Nat} {I : List Nat} (hl : I.length = P) (hn : I.Nodup) (h : ∀ i ∈ I, i < P) : ∀ i, i < P → i ∈ I := by
  intro i hi
  apply Classical.byContradiction
  intro hm
  have h1 := nodup_le P (i :: I) (List.nodup_cons.2 ⟨hm, hn⟩) (fun x hx => by
    rcases List.mem_cons.1 hx with rfl | hx
    · exact hi
    · exact h x hx)
  simp at h1
  omega
def ix (l : Lf) : Nat := l.index.toNat
/-- the leaves that Of takes -/
def Takes (n : Nat) (ls : List Lf) (sn : List Bool) : Prop := (∀ l ∈ ls, Fits n l ∧ sn.getD (ix l) false = false) ∧ (ls.map ix).Nodup
def layAll (ls : List Lf) (ys : List Int) : List Int := ls.foldl (fun ys l => lay ys (ix l * 10) l.places) ys
theorem fits_ix {n : Nat} {l : Lf} (h : Fits n l) : ix l < pages n := by
  obtain ⟨h1, h2, _⟩ := h
  unfold ix
  omega
theorem ofK_takes {n : Nat} : ∀ (ls : List Lf) (ys : List Int) (sn : List Bool), sn.length = pages n → Takes n ls sn → ofK n ls ys sn = some (layAll ls ys)
  | [], ys, sn, _, _ => rfl
  | l :: ls, ys, sn, hs, ⟨h1, h2⟩ => by
    obtain ⟨hf, hsn⟩ := h1 l List.mem_cons_self
    rw [ofK_yes (decide_eq_true hf) hsn]
    rw [List.map_cons, List.nodup_cons] at h2
    refine (ofK_takes ls _ _ (by rw [List.length_set]; exact hs) ⟨fun x hx => ?_, h2.2⟩)
    obtain ⟨g1, g2⟩ := h1 x (List.mem_cons_of_mem _ hx)
    refine ⟨g1, ?_⟩
    have hne : l.index.toNat ≠ ix x := fun e => h2.1 (List.mem_map.2 ⟨x, hx, e.symm⟩)
    rw [List.getD_eq_getElem?_getD, List.getElem?_set_ne hne, ← List.getD_eq_getElem?_getD]
    exact g2
theorem takes_of {n : Nat} : ∀ (ls : List Lf) (ys : List Int) (sn : List Bool) (R : List Int), sn.length = pages n → ofK n ls ys sn = some R → Takes n ls sn
  | [], ys, sn, R, _, _ => ⟨fun l h => (List.not_mem_nil h).elim, List.nodup_nil⟩
  | l :: ls, ys, sn, R, hs, h => by
    by_cases hc : fitsB n l = true ∧ sn.getD l.index.toNat false = false
    · have hf := fits_yes hc.1
      have hix := fits_ix hf
      rw [ofK_yes hc.1 hc.2] at h
      obtain ⟨h1, h2⟩ := takes_of ls _ _ R (by rw [List.length_set]; exact hs) h
      have hne : ∀ x ∈ ls, ix x ≠ ix l := fun x hx e => by
        have := (h1 x hx).2
        rw [e, List.getD_eq_getElem?_getD, show ix l = l.index.toNat from rfl, List.getElem?_set_self (by rw [hs]; exact hix)] at this
        cases this
      refine ⟨fun x hx => ?_, ?_⟩
      · rcases List.mem_cons.1 hx with rfl | hx
        · exact ⟨hf, hc.2⟩
        · obtain ⟨g1, g2⟩ := h1 x hx
          refine ⟨g1, ?_⟩
          rw [List.getD_eq_getElem?_getD, List.getElem?_set_ne (show l.index.toNat ≠ ix x from fun e => hne x hx e.symm), ← List.getD_eq_getElem?_getD] at g2
          exact g2
      · rw [List.map_cons, List.nodup_cons]
        refine ⟨fun hm => ?_, h2⟩
        obtain ⟨x, hx, e⟩ := List.mem_map.1 hm
        exact hne x hx e
    · rw [ofK, if_neg hc] at h
      cases h
theorem layAll_length {n : Nat} : ∀ (ls : List Lf) (ys : List Int), ys.length = 10 * pages n → (∀ l ∈ ls, In l ∧ Fits n l) → (layAll ls ys).length = ys.length
  | [], _, _, _ => rfl
  | l :: ls, ys, hy, h => by
    obtain ⟨hi, hf⟩ := h l List.mem_cons_self
    have hix := fits_ix hf
    have hl : (lay ys (ix l * 10) l.places).length = ys.length := lay_length (by unfold In at hi; omega)
    show (layAll ls (lay ys (ix l * 10) l.places)).length = _
    rw [layAll_length ls _ (by rw [hl]; exact hy) (fun x hx => h x (List.mem_cons_of_mem _ hx)), hl]
theorem layAll_out {n : Nat} : ∀ (ls : List Lf) (ys : List Int) (q j : Nat), ys.length = 10 * pages n → (∀ l ∈ ls, In l ∧ Fits n l) → (∀ l ∈ ls, ix l ≠ q) → j < 10 → (layAll ls ys)[q * 10 + j]? = ys[q * 10 + j]?
  | [], _, _, _, _, _, _, _ => rfl
  | l :: ls, ys, q, j, hy, h, hq, hj => by
    obtain ⟨hi, hf⟩ := h l List.mem_cons_self
    have hix := fits_ix hf
    have hb : ix l * 10 + l.places.length ≤ ys.length := by unfold In at hi; omega
    have hl : (lay ys (ix l * 10) l.places).length = ys.length := lay_length hb
    have hne := hq l List.mem_cons_self
    show (layAll ls (lay ys (ix l * 10) l.places))[_]? = _
    rw [layAll_out ls _ q j (by rw [hl]; exact hy) (fun x hx => h x (List.mem_cons_of_mem _ hx)) (fun x hx => hq x (List.mem_cons_of_mem _ hx)) hj]
    by_cases h1 : q * 10 + j < ix l * 10
    · exact lay_low hb h1
    · exact lay_high hb (by unfold In at hi; omega)
theorem layAll_in {n : Nat} : ∀ (ls : List Lf) (ys : List Int) (l : Lf) (j : Nat), ys.length = 10 * pages n → (∀ l ∈ ls, In l ∧ Fits n l) → (ls.map ix).Nodup → l ∈ ls → j < 10 → (layAll ls ys)[ix l * 10 + j]? = l.places[j]?
  | [], _, _, _, _, _, _, h, _ => (List.not_mem_nil h).elim
  | x :: ls, ys, l, j, hy, h, hn, hm, hj => by
    obtain ⟨hi, hf⟩ := h x List.mem_cons_self
    have hix := fits_ix hf
    have hb : ix x * 10 + x.places.length ≤ ys.length := by unfold In at hi; omega
    have hl : (lay ys (ix x * 10) x.places).length = ys.length := lay_length hb
    rw [List.map_cons, List.nodup_cons] at hn
    show (layAll ls (lay ys (ix x * 10) x.places))[_]? = _
    rcases List.mem_cons.1 hm with rfl | hm
    · rw [layAll_out ls _ (ix l) j (by rw [hl]; exact hy) (fun y hy => h y (List.mem_cons_of_mem _ hy)) (fun y hy e => hn.1 (List.mem_map.2 ⟨y, hy, e⟩)) hj]
      exact lay_in hb (by unfold In at hi; omega)
    · exact layAll_in ls _ l j (by rw [hl]; exact hy) (fun y hy => h y (List.mem_cons_of_mem _ hy)) hn.2 hm hj
/-- what Of makes of leaves that fit, each once -/
theorem of_takes {n : Nat} {ls : List Lf} (hl : ls.length = pages n) (h : ∀ l ∈ ls, In l ∧ Fits n l) (hn : (ls.map ix).Nodup) :
    ∃ ys, ofT n ls = some ys ∧ ys.length = 10 * pages n ∧ (∀ l ∈ ls, ∀ j, j < 10 → ys[ix l * 10 + j]? = l.places[j]?) ∧ ∀ q, q < pages n → ∃ l ∈ ls, ix l = q := by
  have hz : (List.replicate (10 * pages n) (0 : Int)).length = 10 * pages n := by simp
  have ht : Takes n ls (List.replicate (pages n) false) := ⟨fun l hm => ⟨(h l hm).2, by simp [List.getD_eq_getElem?_getD, List.getElem?_replicate]; split <;> rfl⟩, hn⟩
  refine ⟨layAll ls (List.replicate (10 * pages n) 0), ?_, ?_, ?_, ?_⟩
  · unfold ofT
    rw [if_pos hl]
    exact ofK_takes ls _ _ (by simp) ht
  · rw [layAll_length ls _ hz h, hz]
  · intro l hm j hj
    exact layAll_in ls _ l j hz h hn hm hj
  · intro q hq
    have := nodup_range (by rw [List.length_map]; exact hl) hn (fun i hi => by
      obtain ⟨l, hm, rfl⟩ := List.mem_map.1 hi
      exact fits_ix (h l hm).2) q hq
    obtain ⟨l, hm, e⟩ := List.mem_map.1 this
    exact ⟨l, hm, e⟩
theorem of_some {n : Nat} {ls : List Lf} {ys : List Int} (h : ofT n ls = some ys) : ls.length = pages n ∧ (∀ l ∈ ls, Fits n l) ∧ (ls.map ix).Nodup := by
  unfold ofT at h
  by_cases hl : ls.length = pages n
  · rw [if_pos hl] at h
    obtain ⟨h1, h2⟩ := takes_of ls _ _ ys (by simp) h
    exact ⟨hl, fun l hm => (h1 l hm).1, h2⟩
  · rw [if_neg hl] at h
    cases h
end Tbl
end Go.Proofs.Ytcligeajgbibnaa

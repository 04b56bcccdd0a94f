/-
  Package table, plain mathematics: the answer's Of and the program's are one.
-/
import Derived.Test.YtcligeajgbibnaaTbQ
namespace Go.Proofs.Ytcligeajgbibnaa
open Go.RowKit Leaf Tbl
set_option linter.unusedVariables false

namespace Tbl
theorem nodup_map_inj {α β : Type} {f : α → β} : ∀ {ls : List α} {a b : α}, (ls.map f).Nodup → a ∈ ls → b ∈ ls → f a = f b → a = b
  | [], _, _, _, h, _, _ => (List.not_mem_nil h).elim
  | x :: ls, a, b, hn, ha, hb, e => by
    rw [List.map_cons, List.nodup_cons] at hn
    rcases List.mem_cons.1 ha with rfl | ha1 <;> rcases List.mem_cons.1 hb with rfl | hb1
    · rfl
    · exact absurd (List.mem_map.2 ⟨b, hb1, e.symm⟩) hn.1
    · exact absurd (List.mem_map.2 ⟨a, ha1, e⟩) hn.1
    · exact nodup_map_inj hn.2 ha1 hb1 e
/-- the found leaf is one of them, of that index -/
theorem lfAt_mem {ls : List Lf} {i : Nat} (h : ¬ fndT ls i ls.length = -1) : lfAt ls i ∈ ls ∧ (lfAt ls i).index = (i : Int) := by
  rcases fnd_range ls i ls.length with h2 | ⟨k, h1, h2, h3⟩
  · exact absurd h2 h
  · unfold lfAt
    rw [h2, Int.toNat_natCast]
    refine ⟨?_, h3⟩
    rw [List.getD_eq_getElem?_getD, List.getElem?_eq_getElem h1]
    exact List.getElem_mem h1
theorem fnd_mem {ls : List Lf} {i : Nat} {l : Lf} (h : l ∈ ls) (hi : l.index = (i : Int)) : ¬ fndT ls i ls.length = -1 := by
  obtain ⟨k, hk, rfl⟩ := List.getElem_of_mem h
  refine fnd_has (k := k) hk ?_
  rw [List.getD_eq_getElem?_getD, List.getElem?_eq_getElem hk]
  exact hi
theorem yT_get {ls : List Lf} (h : ∀ l ∈ ls, In l) {P q j : Nat} (hq : q < P) (hj : j < 10) : (yT ls P)[q * 10 + j]? = (lfAt ls q).places[j]? := by
  induction P with
  | zero => omega
  | succ P ih =>
    have h1 := yT_length h P
    rw [yT_succ]
    rcases Nat.lt_or_ge q P with h2 | h2
    · rw [List.getElem?_append_left (by omega)]
      exact ih h2
    · obtain rfl : q = P := by omega
      rw [List.getElem?_append_right (by omega), h1]
      congr 1
      omega
theorem fits_row {n : Nat} {l : Lf} {q : Nat} (h : Fits n l) (hq : l.index = (q : Int)) : RowOk n q l := by
  intro j hj
  have := h.2.2 j hj
  rwa [hq, Int.toNat_natCast] at this
theorem of_rof {n : Nat} {ls : List Lf} {ys : List Int} (hin : ∀ l ∈ ls, In l) (h : ofT n ls = some ys) : RofOk n ls ∧ yT ls (pages n) = ys ∧ ys.length = 10 * pages n ∧ TZ n ys ∧ ∀ k, 0 ≤ ys.getD k 0 := by
  obtain ⟨hl, hf, hn⟩ := of_some h
  obtain ⟨ys', h1, h2, h3, h4⟩ := of_takes hl (fun l hm => ⟨hin l hm, hf l hm⟩) hn
  obtain rfl : ys = ys' := by rw [h] at h1; injection h1
  have hat : ∀ q, q < pages n → ¬ fndT ls q ls.length = -1 ∧ lfAt ls q ∈ ls ∧ (lfAt ls q).index = (q : Int) := fun q hq => by
    obtain ⟨l, hm, e⟩ := h4 q hq
    have hi : l.index = (q : Int) := by
      have := (hf l hm).1
      unfold ix at e
      omega
    have hfn := fnd_mem hm hi
    exact ⟨hfn, lfAt_mem hfn⟩
  have hget : ∀ q j, q < pages n → j < 10 → ys[q * 10 + j]? = (lfAt ls q).places[j]? := fun q j hq hj => by
    obtain ⟨_, hm, hi⟩ := hat q hq
    have := h3 _ hm j hj
    unfold ix at this
    rwa [hi, Int.toNat_natCast] at this
  have hpl : ∀ q j, q < pages n → j < 10 → okP n q j (ys.getD (q * 10 + j) 0) := fun q j hq hj => by
    obtain ⟨_, hm, hi⟩ := hat q hq
    have := fits_row (hf _ hm) hi j hj
    rw [List.getD_eq_getElem?_getD, hget q j hq hj, ← List.getD_eq_getElem?_getD]
    exact this
  refine ⟨⟨hl, fun q hq => ?_⟩, ?_, h2, fun k hk => ?_, fun k => ?_⟩
  · obtain ⟨hfn, hm, hi⟩ := hat q hq
    exact ⟨hfn, fits_row (hf _ hm) hi⟩
  · apply List.ext_getElem?
    intro k
    have hyl := yT_length hin (pages n)
    by_cases hk : k < 10 * pages n
    · have e : k = k / 10 * 10 + k % 10 := by omega
      rw [e, yT_get hin (by omega) (Nat.mod_lt _ (by decide)), hget _ _ (by omega) (Nat.mod_lt _ (by decide))]
    · rw [List.getElem?_eq_none (by omega), List.getElem?_eq_none (by omega)]
  · by_cases hk2 : k < 10 * pages n
    · have e : k = k / 10 * 10 + k % 10 := by omega
      have := hpl (k / 10) (k % 10) (by omega) (Nat.mod_lt _ (by decide))
      rw [← e] at this
      obtain ⟨p0, p1⟩ := this
      rw [← e] at p1
      generalize ys.getD k 0 = x at *
      omega
    · rw [List.getD_eq_getElem?_getD, List.getElem?_eq_none (by omega)]
      rfl
  · by_cases hk2 : k < 10 * pages n
    · have e : k = k / 10 * 10 + k % 10 := by omega
      have := (hpl (k / 10) (k % 10) (by omega) (Nat.mod_lt _ (by decide))).1
      rwa [← e] at this
    · rw [List.getD_eq_getElem?_getD, List.getElem?_eq_none (by omega)]
      exact Int.le_refl 0
theorem of_none {n : Nat} {ls : List Lf} (hin : ∀ l ∈ ls, In l) (h : ofT n ls = none) : ¬ RofOk n ls := by
  rintro ⟨hl, hr⟩
  have hp := perm_range (pages n) (ls.map ix) (by rw [List.length_map]; exact hl) (fun i hi => by
    obtain ⟨hm, he⟩ := lfAt_mem (hr i hi).1
    refine List.mem_map.2 ⟨_, hm, ?_⟩
    unfold ix
    rw [he, Int.toNat_natCast])
  have hn : (ls.map ix).Nodup := hp.nodup_iff.2 List.nodup_range
  have hf : ∀ l ∈ ls, In l ∧ Fits n l := fun l hm => by
    have hlt : ix l < pages n := by
      have := hp.mem_iff.1 (List.mem_map.2 ⟨l, hm, rfl⟩)
      simpa using this
    obtain ⟨hfn, hrow⟩ := hr (ix l) hlt
    obtain ⟨hm2, he⟩ := lfAt_mem hfn
    have hel : lfAt ls (ix l) = l := nodup_map_inj hn hm2 hm (by
      show (lfAt ls (ix l)).index.toNat = ix l
      rw [he, Int.toNat_natCast])
    rw [hel] at he hrow
    refine ⟨hin l hm, by omega, by omega, fun j hj => ?_⟩
    have := hrow j hj
    rwa [show l.index.toNat = ix l from rfl]
  obtain ⟨ys, h1, _⟩ := of_takes hl hf hn
  rw [h] at h1
  cases h1
theorem padT_back {n : Nat} {ys : List Int} (hl : ys.length = 10 * pages n) (hz : TZ n ys) : padT (ys.take n) = ys := by
  have hup := pages_up n
  have ht : (ys.take n).length = n := by rw [List.length_take]; omega
  apply List.ext_getElem?
  intro k
  by_cases h1 : k < n
  · rw [padT_low (by omega), List.getElem?_take, if_pos h1]
  · by_cases h2 : k < 10 * pages n
    · rw [padT_high (by omega) (by rw [ht]; exact h2)]
      have := hz k (by omega)
      rw [List.getD_eq_getElem?_getD] at this
      rw [List.getElem?_eq_getElem (by omega)] at this ⊢
      simpa using this.symm
    · rw [List.getElem?_eq_none (by rw [padT_length, ht]; omega), List.getElem?_eq_none (by omega)]
theorem idxs_none {ds : List Bool} (h : ∀ k, ds.getD k false = false) : ∀ m, idxs ds m = []
  | 0 => rfl
  | m + 1 => by rw [idxs_no (h m), idxs_none h m]
theorem idxs_clean (m k : Nat) : idxs (List.replicate m false) k = [] := idxs_none (fun i => by
  rw [List.getD_eq_getElem?_getD, List.getElem?_replicate]
  split <;> rfl) k
end Tbl
end Go.Proofs.Ytcligeajgbibnaa

/-
  The mathematics of package live: a list of places' numbers and blocks; what stands at a place, how many in a zone. No program.
-/
import Derived.Test.YtajehmdmgkhkpaaGeomM
namespace Go.Proofs.Ytajehmdmgkhkpaa.Lv
open Geom
set_option linter.unusedVariables false

/-- the block of a place's number -/
def lk : List (Int × Int) → Int → Option Int
  | [], _ => none
  | x :: r, n => if x.1 = n then some x.2 else lk r n
/-- where a number stands -/
def fd : List (Int × Int) → Int → Nat
  | [], _ => 0
  | x :: r, n => if x.1 = n then 0 else fd r n + 1
/-- without a number -/
def er : List (Int × Int) → Int → List (Int × Int)
  | [], _ => []
  | x :: r, n => if x.1 = n then r else x :: er r n
theorem lk_none {l : List (Int × Int)} {n : Int} : lk l n = none ↔ ∀ x ∈ l, x.1 ≠ n := by
  induction l with
  | nil => simp [lk]
  | cons x r ih =>
    unfold lk
    by_cases h : x.1 = n
    · simp [h]
    · simp [h, ih]
theorem lk_mem {l : List (Int × Int)} {n v : Int} (h : lk l n = some v) : (n, v) ∈ l := by
  induction l with
  | nil => simp [lk] at h
  | cons x r ih =>
    unfold lk at h
    by_cases hx : x.1 = n
    · rw [if_pos hx] at h
      injection h with h
      subst hx h
      exact List.mem_cons_self
    · rw [if_neg hx] at h
      exact List.mem_cons_of_mem _ (ih h)
theorem fd_at {l : List (Int × Int)} {n : Int} {k : Nat} : ∀ {x : Int × Int}, l[k]? = some x → x.1 = n → (∀ j y, j < k → l[j]? = some y → y.1 ≠ n) → fd l n = k ∧ (lk l n).isSome = true := by
  induction l generalizing k with
  | nil => intro x h; simp at h
  | cons y r ih =>
    intro x h hx hj
    cases k with
    | zero =>
      obtain rfl : y = x := by simpa using h
      simp [fd, lk, hx]
    | succ k =>
      have hy : y.1 ≠ n := hj 0 y (by omega) rfl
      obtain ⟨h1, h2⟩ := ih (k := k) (by simpa using h) hx (fun j z hjk hz => hj (j + 1) z (by omega) (by simpa using hz))
      simp [fd, lk, hy, h1, h2]
theorem fd_lt {l : List (Int × Int)} {n : Int} (h : (lk l n).isSome = true) : fd l n < l.length := by
  induction l with
  | nil => simp [lk] at h
  | cons x r ih =>
    unfold lk at h
    unfold fd
    by_cases hx : x.1 = n
    · simp [hx]
    · rw [if_neg hx] at h ⊢
      have := ih h
      simp
      omega
theorem lk_all {l : List (Int × Int)} {n : Int} (h : ∀ j y, j < l.length → l[j]? = some y → y.1 ≠ n) : lk l n = none :=
  lk_none.2 fun x hx => by
    obtain ⟨j, hj, rfl⟩ := List.getElem_of_mem hx
    exact h j _ hj (by simp [hj])
theorem er_cut (l : List (Int × Int)) (n : Int) : er l n = l.take (fd l n) ++ l.drop (fd l n + 1) := by
  induction l with
  | nil => simp [er]
  | cons x r ih =>
    unfold er fd
    by_cases h : x.1 = n
    · simp [h]
    · simp [h, ih]
theorem lk_snoc (l : List (Int × Int)) (x : Int × Int) (n : Int) : lk (l ++ [x]) n = if (lk l n).isSome = true then lk l n else if x.1 = n then some x.2 else none := by
  induction l with
  | nil => simp [lk]
  | cons y r ih =>
    simp only [List.cons_append]
    unfold lk
    by_cases h : y.1 = n
    · simp [h]
    · simp only [if_neg h]
      exact ih

/-- whole: each number once, each a place's -/
def Wl (seq size : Int) (l : List (Int × Int)) : Prop := l.Pairwise (fun x y => x.1 ≠ y.1) ∧ ∀ x ∈ l, 1 ≤ x.1 ∧ x.1 ≤ seq * size
section
variable {seq size conv : Int} {l r : List (Int × Int)} {x : Int × Int} {n : Int}
theorem Wl.nil : Wl seq size [] := ⟨List.Pairwise.nil, fun x h => absurd h List.not_mem_nil⟩
theorem Wl.tail (h : Wl seq size (x :: r)) : Wl seq size r ∧ lk r x.1 = none ∧ 1 ≤ x.1 ∧ x.1 ≤ seq * size := by
  obtain ⟨h1, h2⟩ := h
  obtain ⟨h3, h4⟩ := List.pairwise_cons.1 h1
  exact ⟨⟨h4, fun y hy => h2 y (List.mem_cons_of_mem _ hy)⟩, lk_none.2 fun y hy => (h3 y hy).symm, h2 x List.mem_cons_self⟩
theorem Wl.add (h : Wl seq size l) (hx : 1 ≤ x.1 ∧ x.1 ≤ seq * size) (hn : lk l x.1 = none) : Wl seq size (l ++ [x]) := by
  refine ⟨List.pairwise_append.2 ⟨h.1, by simp, fun a ha b hb => ?_⟩, fun y hy => ?_⟩
  · obtain rfl : b = x := by simpa using hb
    exact lk_none.1 hn a ha
  · rcases List.mem_append.1 hy with hy | hy
    · exact h.2 y hy
    · obtain rfl : y = x := by simpa using hy
      exact hx
theorem er_filter (h : Wl seq size l) : er l n = l.filter (fun x => x.1 != n) := by
  induction l with
  | nil => rfl
  | cons x r ih =>
    obtain ⟨h1, h2, _⟩ := h.tail
    unfold er
    by_cases hx : x.1 = n
    · rw [if_pos hx, List.filter_cons_of_neg (by simp [hx])]
      subst hx
      exact (List.filter_eq_self.2 fun y hy => by simpa using lk_none.1 h2 y hy).symm
    · rw [if_neg hx, List.filter_cons_of_pos (by simp [hx]), ih h1]
theorem Wl.er (h : Wl seq size l) (n : Int) : Wl seq size (er l n) := by
  rw [er_filter h]
  exact ⟨h.1.filter _, fun x hx => h.2 x (List.mem_filter.1 hx).1⟩
theorem er_none (h : lk l n = none) : er l n = l := by
  induction l with
  | nil => rfl
  | cons x r ih =>
    unfold lk at h
    unfold Lv.er
    by_cases hx : x.1 = n
    · rw [if_pos hx] at h; cases h
    · rw [if_neg hx] at h ⊢
      rw [ih h]
theorem lk_er (h : Wl seq size l) (m : Int) : lk (er l n) m = if m = n then none else lk l m := by
  induction l with
  | nil => simp [Lv.er, lk]
  | cons x r ih =>
    obtain ⟨h1, h2, _⟩ := h.tail
    unfold Lv.er
    by_cases hx : x.1 = n
    · rw [if_pos hx]
      subst hx
      by_cases hm : m = x.1
      · rw [if_pos hm, hm, h2]
      · rw [if_neg hm]
        conv => rhs; unfold lk
        rw [if_neg (fun e => hm e.symm)]
    · rw [if_neg hx]
      unfold lk
      rw [ih h1]
      by_cases hm : m = n
      · subst hm
        simp [hx]
      · simp [hm]
theorem lk_of (h : Wl seq size l) {k : Nat} (hk : l[k]? = some x) : lk l x.1 = some x.2 := by
  induction l generalizing k with
  | nil => simp at hk
  | cons y r ih =>
    obtain ⟨h1, h2, _⟩ := h.tail
    cases k with
    | zero =>
      obtain rfl : y = x := by simpa using hk
      simp [lk]
    | succ k =>
      have hk : r[k]? = some x := by simpa using hk
      have hm : x ∈ r := List.mem_of_getElem? hk
      unfold lk
      rw [if_neg (fun e => lk_none.1 h2 x hm e.symm)]
      exact ih h1 hk

/-- the place of a number -/
def plN (conv seq size n : Int) : Int × Int := (zoneOf conv seq size n, offOf seq size n)
/-- the block that stands at a place -/
def pv (conv seq size : Int) (l : List (Int × Int)) (a : Int × Int) : Option Int := if Seat conv seq size a.1 a.2 then lk l (num conv seq size a.1 a.2) else none
theorem plN_yes (hn : 1 ≤ n ∧ n ≤ seq * size) : plN conv seq size n = (conv + (n - 1) / size, (n - 1) % size) := by
  unfold plN zoneOf offOf
  rw [if_pos hn, if_pos hn]
theorem plN_seat (hs : 0 < size) (hn : 1 ≤ n ∧ n ≤ seq * size) : Seat conv seq size (plN conv seq size n).1 (plN conv seq size n).2 := by
  rw [plN_yes hn]
  exact seat_of hs hn
theorem num_plN (hs : 0 < size) (hn : 1 ≤ n ∧ n ≤ seq * size) : num conv seq size (plN conv seq size n).1 (plN conv seq size n).2 = n := by
  rw [plN_yes hn]
  exact num_of hs hn
theorem plN_num {a : Int × Int} (h : Seat conv seq size a.1 a.2) : plN conv seq size (num conv seq size a.1 a.2) = a ∧ 1 ≤ num conv seq size a.1 a.2 ∧ num conv seq size a.1 a.2 ≤ seq * size := by
  have h1 := num_bd h
  have h2 := of_num h
  have e : num conv seq size a.1 a.2 = (a.1 - conv) * size + a.2 + 1 := if_pos h
  rw [e]
  refine ⟨?_, h1⟩
  rw [plN_yes h1, h2.1, h2.2]
theorem pv_num (hs : 0 < size) (hn : 1 ≤ n ∧ n ≤ seq * size) : pv conv seq size l (plN conv seq size n) = lk l n := by
  unfold pv
  rw [if_pos (plN_seat hs hn), num_plN hs hn]
theorem pv_out (hc : 0 < conv) (hn : ¬ (1 ≤ n ∧ n ≤ seq * size)) : pv conv seq size l (plN conv seq size n) = none := by
  unfold pv plN zoneOf offOf
  rw [if_neg hn, if_neg hn, if_neg]
  unfold Seat
  show ¬ (conv ≤ 0 ∧ _)
  omega
theorem pv_low {a : Int × Int} (h : ¬ (conv ≤ a.1 ∧ a.1 < conv + seq)) : pv conv seq size l a = none := by
  unfold pv
  rw [if_neg]
  unfold Seat
  omega
theorem pv_cons (hs : 0 < size) (hx : 1 ≤ x.1 ∧ x.1 ≤ seq * size) (a : Int × Int) : pv conv seq size (x :: r) a = if a = plN conv seq size x.1 then some x.2 else pv conv seq size r a := by
  unfold pv
  by_cases h : Seat conv seq size a.1 a.2
  · rw [if_pos h, if_pos h]
    have hp := (plN_num h).1
    conv => lhs; unfold lk
    by_cases e : a = plN conv seq size x.1
    · rw [if_pos e, if_pos]
      rw [e, num_plN hs hx]
    · rw [if_neg e, if_neg]
      intro e2
      exact e (by rw [e2, hp])
  · rw [if_neg h, if_neg h, if_neg]
    rintro rfl
    exact h (plN_seat hs hx)
theorem pv_add (hs : 0 < size) {b : Int} (hx : 1 ≤ n ∧ n ≤ seq * size) (hn : lk l n = none) (a : Int × Int) : pv conv seq size (l ++ [(n, b)]) a = if a = plN conv seq size n then some b else pv conv seq size l a := by
  unfold pv
  by_cases h : Seat conv seq size a.1 a.2
  · rw [if_pos h, if_pos h, lk_snoc]
    have hp := (plN_num h).1
    by_cases e : a = plN conv seq size n
    · rw [if_pos e]
      have : num conv seq size a.1 a.2 = n := by rw [e, num_plN hs hx]
      rw [this, hn]
      simp
    · rw [if_neg e]
      have : ¬ n = num conv seq size a.1 a.2 := fun e2 => e (by rw [e2, hp])
      simp only [if_neg this]
      cases lk l (num conv seq size a.1 a.2) <;> rfl
  · rw [if_neg h, if_neg h, if_neg]
    rintro rfl
    exact h (plN_seat hs hx)
theorem pv_er (hs : 0 < size) (hw : Wl seq size l) (hx : 1 ≤ n ∧ n ≤ seq * size) (a : Int × Int) : pv conv seq size (er l n) a = if a = plN conv seq size n then none else pv conv seq size l a := by
  unfold pv
  by_cases h : Seat conv seq size a.1 a.2
  · rw [if_pos h, if_pos h, lk_er hw]
    have hp := (plN_num h).1
    by_cases e : a = plN conv seq size n
    · rw [if_pos e, if_pos]
      rw [e, num_plN hs hx]
    · rw [if_neg e, if_neg]
      intro e2
      exact e (by rw [← e2, hp])
  · rw [if_neg h, if_neg h]
    simp

/-- how many of a zone -/
def cn (conv seq size : Int) (l : List (Int × Int)) (z : Int) : Nat := l.countP (fun x => zoneOf conv seq size x.1 == z)
theorem cn_add (z : Int) : cn conv seq size (l ++ [x]) z = cn conv seq size l z + if zoneOf conv seq size x.1 = z then 1 else 0 := by
  unfold cn
  rw [List.countP_append, List.countP_singleton]
  simp
theorem cn_cons (z : Int) : cn conv seq size (x :: l) z = cn conv seq size l z + if zoneOf conv seq size x.1 = z then 1 else 0 := by
  unfold cn
  rw [List.countP_cons]
  simp
theorem cn_er (h : (lk l n).isSome = true) (z : Int) : cn conv seq size l z = cn conv seq size (er l n) z + if zoneOf conv seq size n = z then 1 else 0 := by
  induction l with
  | nil => simp [lk] at h
  | cons y r ih =>
    unfold lk at h
    unfold Lv.er
    rw [cn_cons]
    by_cases hy : y.1 = n
    · rw [if_pos hy, hy]
    · rw [if_neg hy] at h ⊢
      rw [cn_cons, ih h]
      omega
theorem cn_le (z : Int) : cn conv seq size l z ≤ l.length := List.countP_le_length
theorem er_length (h : (lk l n).isSome = true) : (er l n).length + 1 = l.length := by
  induction l with
  | nil => simp [lk] at h
  | cons y r ih =>
    unfold lk at h
    unfold Lv.er
    by_cases hy : y.1 = n
    · simp [hy]
    · rw [if_neg hy] at h ⊢
      have := ih h
      simp
      omega
/-- the sectors of a zone, of the first k, that are live -/
def zo (conv seq size : Int) (l : List (Int × Int)) (z : Int) (k : Nat) : List Nat := (List.range k).filter (fun (o : Nat) => (pv conv seq size l (z, (o : Int))).isSome)
theorem zo_yes {z : Int} {k : Nat} (h : (pv conv seq size l (z, (k : Int))).isSome = true) : zo conv seq size l z (k + 1) = zo conv seq size l z k ++ [k] := by
  unfold zo
  rw [List.range_succ, List.filter_append]
  congr 1
  simp [h]
theorem zo_no {z : Int} {k : Nat} (h : (pv conv seq size l (z, (k : Int))).isSome = false) : zo conv seq size l z (k + 1) = zo conv seq size l z k := by
  unfold zo
  rw [List.range_succ, List.filter_append]
  simp [h]
theorem zo_le (z : Int) (k : Nat) : (zo conv seq size l z k).length ≤ k := by
  unfold zo
  have := List.length_filter_le (fun (o : Nat) => (pv conv seq size l (z, (o : Int))).isSome) (List.range k)
  simpa using this
theorem zo_low {z : Int} (h : ¬ (conv ≤ z ∧ z < conv + seq)) (k : Nat) : zo conv seq size l z k = [] := by
  unfold zo
  rw [List.filter_eq_nil_iff]
  intro o _
  rw [pv_low h]
  simp
theorem cnt_ins {p q : Nat → Bool} {c : Nat} (hp : ∀ o, p o = (q o || o == c)) (hq : q c = false) (k : Nat) : (List.range k).countP p = (List.range k).countP q + if c < k then 1 else 0 := by
  induction k with
  | zero => simp
  | succ k ih =>
    rw [List.range_succ, List.countP_append, List.countP_append, List.countP_singleton, List.countP_singleton, ih, hp k]
    by_cases h : k = c
    · subst h
      simp [hq]
    · have h2 : (k == c) = false := by simpa using h
      rw [h2, Bool.or_false]
      have h4 : (if c < k + 1 then 1 else 0) = if c < k then 1 else 0 := by
        by_cases h3 : c < k
        · rw [if_pos h3, if_pos (by omega)]
        · rw [if_neg h3, if_neg (by omega)]
      rw [h4]
      omega
theorem zo_cn (hs : 0 < size) (h : Wl seq size l) (z : Int) (hz : conv ≤ z ∧ z < conv + seq) : (zo conv seq size l z size.toNat).length = cn conv seq size l z := by
  unfold zo
  rw [← List.countP_eq_length_filter]
  induction l with
  | nil =>
    have : ∀ a, pv conv seq size [] a = none := fun a => by unfold pv lk; split <;> rfl
    simp [cn, this]
  | cons x r ih =>
    obtain ⟨h1, h2, h3⟩ := h.tail
    have hc := pv_cons (conv := conv) (r := r) hs h3
    rw [cn_cons, ← ih h1]
    have hp := plN_seat (conv := conv) hs h3
    by_cases e : zoneOf conv seq size x.1 = z
    · rw [if_pos e]
      obtain ⟨c, hcc⟩ : ∃ c : Nat, offOf seq size x.1 = (c : Int) := ⟨(offOf seq size x.1).toNat, by have := hp.2.2.1; simp only [plN] at this; omega⟩
      have hpl : plN conv seq size x.1 = (z, (c : Int)) := by unfold plN; rw [e, hcc]
      have hlt : c < size.toNat := by have := hp.2.2.2; rw [hpl] at this; simp only at this; omega
      rw [cnt_ins (q := fun (o : Nat) => (pv conv seq size r (z, (o : Int))).isSome) (c := c) ?_ ?_, if_pos hlt]
      · intro o
        rw [hc, hpl]
        by_cases ho : o = c
        · subst ho; simp
        · have : ¬ ((z, (o : Int)) = (z, (c : Int))) := by intro e2; injection e2 with _ e2; omega
          rw [if_neg this]
          simp [ho]
      · show (pv conv seq size r (z, (c : Int))).isSome = false
        rw [← hpl, pv_num hs h3, h2]
        rfl
    · rw [if_neg e, Nat.add_zero]
      congr 1
      funext o
      rw [hc, if_neg]
      intro e2
      exact e (congrArg Prod.fst e2).symm
theorem cn_low (hs : 0 < size) (h : Wl seq size l) (z : Int) (hz : ¬ (conv ≤ z ∧ z < conv + seq)) : cn conv seq size l z = 0 := by
  unfold cn
  rw [List.countP_eq_zero]
  intro x hx
  have hp := plN_seat (conv := conv) hs (h.2 x hx)
  obtain ⟨h1, h2, _⟩ := hp
  simp only [plN] at h1 h2
  simp only [beq_iff_eq]
  omega

/-- a place is added, or dropped -/
def doM (seq size : Int) (l : List (Int × Int)) (n b : Int) (drop : Bool) : List (Int × Int) × Bool :=
  if isB seq size n = true ∧ drop = (lk l n).isSome then (if drop = true then er l n else l ++ [(n, b)], true) else (l, false)
theorem isB_iff : isB seq size n = true ↔ 1 ≤ n ∧ n ≤ seq * size := by simp [isB]
theorem doM_wl (h : Wl seq size l) (n b : Int) (drop : Bool) : Wl seq size (doM seq size l n b drop).1 := by
  unfold doM
  by_cases hc : isB seq size n = true ∧ drop = (lk l n).isSome
  · rw [if_pos hc]
    cases drop
    · exact h.add (x := (n, b)) (isB_iff.1 hc.1) (by simpa using hc.2.symm)
    · exact h.er n
  · rw [if_neg hc]
    exact h
theorem doM_le (n b : Int) (drop : Bool) : (doM seq size l n b drop).1.length ≤ l.length + 1 := by
  unfold doM
  by_cases hc : isB seq size n = true ∧ drop = (lk l n).isSome
  · rw [if_pos hc]
    cases drop
    · simp
    · have := er_length (l := l) (n := n) hc.2.symm
      show (er l n).length ≤ _
      omega
  · rw [if_neg hc]
    exact Nat.le_succ _
end
end Go.Proofs.Ytajehmdmgkhkpaa.Lv

/-
  ZoneM
-/
import Derived.Test.YthgjlofebicpiaaMg16
import Derived.Laws.MakeOwn
/-
  The mathematics of package zone: what becomes of one zone, of all zones; which are right. No program.
-/
namespace Go.Proofs.Ythgjlofebicpiaa.Zone
open Geom

/-- a zone: its state, its pointer -/
abbrev Z := Int × Int
/-- how many are Open -/
def cnt (L : List Z) : Nat := L.countP (fun z => z.1 == 1)
theorem cnt_le (L : List Z) : cnt L ≤ L.length := List.countP_le_length
theorem cnt_nil : cnt [] = 0 := rfl
theorem cnt_append (L M : List Z) : cnt (L ++ M) = cnt L + cnt M := List.countP_append
theorem cnt_one (z : Z) : cnt [z] = if z.1 = 1 then 1 else 0 := by
  unfold cnt
  by_cases h : z.1 = 1 <;> simp [h]
theorem take_succ {α : Type} {L : List α} {k : Nat} {z : α} (h : L[k]? = some z) : L.take (k + 1) = L.take k ++ [z] := by
  rw [List.take_add_one, h]
  rfl
theorem cnt_take {L : List Z} {k : Nat} {z : Z} (h : L[k]? = some z) : cnt (L.take (k + 1)) = cnt (L.take k) + (if z.1 = 1 then 1 else 0) := by
  rw [take_succ h, cnt_append, cnt_one]
theorem cnt_take_le (L : List Z) (k : Nat) : cnt (L.take k) ≤ k := Nat.le_trans (cnt_le _) (by simp; omega)
theorem getD_of {L : List Z} {k : Nat} {d : Z} (h : k < L.length) : L[k]? = some (L.getD k d) := by simp [h]

/-- an Open zone without power, or closed -/
def rest (z : Z) : Z := if z.2 = 0 then (0, 0) else (2, z.2)
def pow (z : Z) : Z := if z.1 = 1 then rest z else z
def openZ (room : Bool) (z : Z) : Z × Int := if z.1 = 4 ∨ z.1 = 3 then (z, 3) else if z.1 = 1 then (z, 0) else if room = true then ((1, z.2), 0) else (z, 5)
def resetZ (z : Z) : Z × Int := if z.1 = 4 then (z, 3) else ((0, 0), 0)
def finishZ (z : Z) : Z × Int := if z.1 = 4 ∨ z.1 = 3 then (z, 3) else ((3, z.2), 0)
def closeZ (z : Z) : Z × Int := if z.1 = 1 then (rest z, 0) else (z, 3)
def writeZ (off size : Int) (room : Bool) (z : Z) : Z × Int :=
  if z.1 = 4 then (z, 0) else if z.1 = 3 then (z, 3) else if off ≠ z.2 then (z, 4) else if z.1 = 1 ∨ room = true then ((if z.2 + 1 = size then 3 else 1, z.2 + 1), 0) else (z, 5)
/-- what is asked of one zone: 0 Write, 2 Reset, 3 Finish, 4 Open, else Close -/
def turn (k off size : Int) (room : Bool) (z : Z) : Z × Int :=
  if k = 0 then writeZ off size room z else if k = 2 then resetZ z else if k = 3 then finishZ z else if k = 4 then openZ room z else closeZ z
/-- is there such a zone? -/
def hasB (conv seq zone : Int) : Bool := decide (0 ≤ zone ∧ zone < conv + seq)
/-- is there such a sector? -/
def inB (conv soft seq size zone off : Int) : Bool := decide (0 ≤ off ∧ off < sectors conv soft seq size zone)
/-- the zone that a number names -/
def zat (L : List Z) (zone : Int) : Z := L.getD zone.toNat (0, 0)
/-- all of what may be asked; 1 Read, 6 Power -/
def act (conv soft seq size opn : Int) (L : List Z) (k zone off : Int) : List Z × Int :=
  if k = 6 then (L.map pow, 0)
  else if hasB conv seq zone = false then (L, 6)
  else if (k = 0 ∨ k = 1) ∧ inB conv soft seq size zone off = false then (L, 6)
  else if k = 1 then (L, if (zat L zone).1 ≠ 4 ∧ (zat L zone).2 ≤ off then 4 else 0)
  else (L.set zone.toNat (turn k off size (decide ((cnt L : Int) < opn)) (zat L zone)).1, (turn k off size (decide ((cnt L : Int) < opn)) (zat L zone)).2)

/-- a zone at a place is right -/
def fitZ (conv size : Int) (i : Nat) (z : Z) : Prop :=
  ((i : Int) < conv ∧ z.1 = 4 ∧ z.2 = 0) ∨ (conv ≤ (i : Int) ∧ ((z.1 = 0 ∧ z.2 = 0) ∨ (z.1 = 1 ∧ 0 ≤ z.2 ∧ z.2 < size) ∨ (z.1 = 2 ∧ 0 < z.2 ∧ z.2 < size) ∨ (z.1 = 3 ∧ 0 ≤ z.2 ∧ z.2 ≤ size)))
instance (conv size : Int) (i : Nat) (z : Z) : Decidable (fitZ conv size i z) := by unfold fitZ; exact inferInstance
/-- a sequential zone's pointer fits its state -/
def seqB (size : Int) (z : Z) : Bool := decide ((z.1 = 0 ∧ z.2 = 0) ∨ (z.1 = 1 ∧ 0 ≤ z.2 ∧ z.2 < size) ∨ (z.1 = 2 ∧ 0 < z.2 ∧ z.2 < size) ∨ (z.1 = 3 ∧ 0 ≤ z.2 ∧ z.2 ≤ size))
/-- all zones are -/
def Fit (conv seq size opn : Int) (L : List Z) : Prop := (L.length : Int) = conv + seq ∧ (cnt L : Int) ≤ opn ∧ ∀ i, i < L.length → fitZ conv size i (L.getD i (0, 0))
instance (conv seq size opn : Int) (L : List Z) : Decidable (Fit conv seq size opn L) := by unfold Fit; exact inferInstance
def fitB (conv seq size opn : Int) (L : List Z) : Bool := decide (Fit conv seq size opn L)
theorem fit_yes {conv seq size opn : Int} {L : List Z} (h : Fit conv seq size opn L) : fitB conv seq size opn L = true := decide_eq_true h
theorem fit_no {conv seq size opn : Int} {L : List Z} (h : ¬ Fit conv seq size opn L) : fitB conv seq size opn L = false := decide_eq_false h

/-- the cells of zones -/
def zc : List Z → List Value
  | [] => []
  | z :: L => .int .i64 z.1 :: .int .i64 z.2 :: zc L
theorem zc_length : ∀ L : List Z, (zc L).length = L.length * 2
  | [] => rfl
  | z :: L => by simp [zc, zc_length L]; omega
theorem zc_get0 : ∀ {L : List Z} {k : Nat} {z : Z}, L[k]? = some z → (zc L)[k * 2]? = some (.int .i64 z.1)
  | [], k, z, h => by simp at h
  | y :: L, 0, z, h => by obtain rfl : y = z := by simpa using h
                          rfl
  | y :: L, k + 1, z, h => by
    have := zc_get0 (L := L) (k := k) (by simpa using h)
    rw [show (k + 1) * 2 = k * 2 + 2 by omega]
    simpa [zc] using this
theorem zc_get1 : ∀ {L : List Z} {k : Nat} {z : Z}, L[k]? = some z → (zc L)[k * 2 + 1]? = some (.int .i64 z.2)
  | [], k, z, h => by simp at h
  | y :: L, 0, z, h => by obtain rfl : y = z := by simpa using h
                          rfl
  | y :: L, k + 1, z, h => by
    have := zc_get1 (L := L) (k := k) (by simpa using h)
    rw [show (k + 1) * 2 + 1 = k * 2 + 1 + 2 by omega]
    simpa [zc] using this
theorem zc_append : ∀ L M : List Z, zc (L ++ M) = zc L ++ zc M
  | [], M => rfl
  | z :: L, M => by simp [zc, zc_append L M]
theorem zc_set : ∀ (L : List Z) (k : Nat) (z : Z), zc (L.set k z) = ((zc L).set (k * 2) (.int .i64 z.1)).set (k * 2 + 1) (.int .i64 z.2)
  | [], k, z => rfl
  | y :: L, 0, z => rfl
  | y :: L, k + 1, z => by
    rw [show (k + 1) * 2 + 1 = k * 2 + 1 + 2 by omega, show (k + 1) * 2 = k * 2 + 2 by omega]
    simp [zc, zc_set L k z]
theorem zc_one : ∀ {L : List Z} {u : Value}, u ∈ zc L → u.oneCell' = true
  | [], u, h => by simp [zc] at h
  | z :: L, u, h => by
    simp only [zc, List.mem_cons] at h
    rcases h with rfl | rfl | h
    · rfl
    · rfl
    · exact zc_one h
theorem zc_ne {L : List Z} (h : 0 < L.length) : zc L ≠ [] := by
  intro e
  have := zc_length L
  rw [e] at this
  simp at this
  omega
theorem zc_inj : ∀ {L M : List Z}, zc L = zc M → L = M
  | [], [], _ => rfl
  | [], m :: M, h => by simp [zc] at h
  | z :: L, [], h => by simp [zc] at h
  | z :: L, m :: M, h => by
    simp only [zc, List.cons.injEq, Value.int.injEq, true_and] at h
    rw [zc_inj h.2.2, show z = m from Prod.ext h.1 h.2.1]
theorem zc_set0 {L : List Z} {k : Nat} {z : Z} (h : L[k]? = some z) (s : Int) : (zc L).set (k * 2) (.int .i64 s) = zc (L.set k (s, z.2)) := by
  have h1 := zc_get1 h
  rw [zc_set]
  apply List.ext_getElem?
  intro j
  by_cases hj : j = k * 2 + 1
  · subst hj
    rw [List.getElem?_set_ne (by omega), h1]
    have := (List.getElem?_eq_some_iff.1 h1).1
    rw [List.getElem?_set_self (by simpa using this)]
  · rw [List.getElem?_set_ne (Ne.symm hj)]
theorem zc_set1 {L : List Z} {k : Nat} {z : Z} (h : L[k]? = some z) (p : Int) : (zc L).set (k * 2 + 1) (.int .i64 p) = zc (L.set k (z.1, p)) := by
  have h1 := zc_get0 h
  rw [zc_set]
  apply List.ext_getElem?
  intro j
  by_cases hj : j = k * 2 + 1
  · subst hj
    by_cases hl : k * 2 + 1 < (zc L).length
    · rw [List.getElem?_set_self hl, List.getElem?_set_self (by simpa using hl)]
    · rw [List.getElem?_eq_none (by simp; omega), List.getElem?_eq_none (by simp; omega)]
  · rw [List.getElem?_set_ne (Ne.symm hj), List.getElem?_set_ne (Ne.symm hj)]
    by_cases hk : j = k * 2
    · subst hk
      have := (List.getElem?_eq_some_iff.1 h1).1
      rw [List.getElem?_set_self this, h1]
    · rw [List.getElem?_set_ne (Ne.symm hk)]
theorem zc_replicate : ∀ (n : Nat), zc (List.replicate n (0, 0)) = List.replicate (n * 2) (.int .i64 0)
  | 0 => rfl
  | n + 1 => by
    rw [List.replicate_succ, show (n + 1) * 2 = n * 2 + 1 + 1 by omega, List.replicate_succ, List.replicate_succ, ← zc_replicate n]
    rfl
theorem made_zone (n : Nat) : (madeCells #[.int .i64 0, .int .i64 0] (n * 2)).toList = zc (List.replicate n (0, 0)) := by
  rw [zc_replicate]
  apply List.ext_getElem?
  intro j
  by_cases hj : j < n * 2
  · rcases Nat.mod_two_eq_zero_or_one j with h | h <;> simp [madeCells, hj, h]
  · simp [madeCells, hj]

/-- the zones to which nothing was done: the first k conventional ones are told -/
def newK (n k : Nat) : List Z := List.replicate k (4, 0) ++ List.replicate (n - k) (0, 0)
theorem newK_zero (n : Nat) : newK n 0 = List.replicate n (0, 0) := by simp [newK]
theorem newK_length {n k : Nat} (h : k ≤ n) : (newK n k).length = n := by simp [newK]; omega
theorem newK_at {n k : Nat} (h : k < n) : (newK n k)[k]? = some (0, 0) := by
  unfold newK
  rw [List.getElem?_append_right (by simp), List.length_replicate, List.getElem?_replicate, if_pos (by omega)]
theorem newK_set {n k : Nat} (h : k < n) : (newK n k).set k (4, 0) = newK n (k + 1) := by
  unfold newK
  rw [List.set_append_right _ _ (by simp), List.replicate_succ', show n - k = n - (k + 1) + 1 by omega, List.replicate_succ]
  simp
theorem newK_get {n k i : Nat} (hk : k ≤ n) (h : i < n) : (newK n k)[i]? = some (if i < k then (4, 0) else (0, 0)) := by
  unfold newK
  by_cases hi : i < k
  · rw [List.getElem?_append_left (by simpa using hi)]
    simp [hi]
  · rw [List.getElem?_append_right (by simpa using Nat.le_of_not_lt hi), List.length_replicate, List.getElem?_replicate, if_pos (by omega), if_neg hi]
theorem newK_take_lo {n k i : Nat} (hk : k ≤ n) (h : i < k) : (newK n k).take (i + 1) = (newK n k).take i ++ [(4, 0)] := by
  rw [take_succ (newK_get hk (by omega)), if_pos h]
theorem newK_take_hi {n k i : Nat} (hk : k ≤ n) (h : i < n) (h2 : k ≤ i) : (newK n k).take (i + 1) = (newK n k).take i ++ [(0, 0)] := by
  rw [take_succ (newK_get hk h), if_neg (by omega)]

theorem fit_lo {conv size : Int} {i : Nat} {z : Z} (h : (i : Int) < conv) : fitZ conv size i z ↔ z.1 = 4 ∧ z.2 = 0 := by
  unfold fitZ
  constructor
  · rintro (h1 | h1)
    · exact h1.2
    · omega
  · exact fun h1 => .inl ⟨h, h1⟩
theorem fit_hi {conv size : Int} {i : Nat} {z : Z} (h : conv ≤ (i : Int)) : fitZ conv size i z ↔ seqB size z = true := by
  unfold fitZ seqB
  rw [decide_eq_true_iff]
  constructor
  · rintro (h1 | h1)
    · omega
    · exact h1.2
  · exact fun h1 => .inr ⟨h, h1⟩
theorem fit_ext {conv size : Int} {L : List Z} {k : Nat} {z : Z} (h : ∀ i, i < k → fitZ conv size i (L.getD i (0, 0))) (hz : L[k]? = some z) (hf : fitZ conv size k z) : ∀ i, i < k + 1 → fitZ conv size i (L.getD i (0, 0)) := by
  intro i hi
  by_cases e : i = k
  · subst e
    rw [List.getD_eq_getElem?_getD, hz]
    exact hf
  · exact h i (by omega)
theorem fit_bad {conv seq size opn : Int} {L : List Z} {k : Nat} {z : Z} (hz : L[k]? = some z) (hf : ¬ fitZ conv size k z) : ¬ Fit conv seq size opn L := by
  rintro ⟨_, _, h⟩
  have := h k (List.getElem?_eq_some_iff.1 hz).1
  rw [List.getD_eq_getElem?_getD, hz] at this
  exact hf this
theorem fit_all {conv seq size opn : Int} {L : List Z} (hn : (L.length : Int) = conv + seq) (h : ∀ i, i < L.length → fitZ conv size i (L.getD i (0, 0))) : fitB conv seq size opn L = decide ((cnt L : Int) ≤ opn) := by
  unfold fitB
  rw [decide_eq_decide]
  exact ⟨fun h1 => h1.2.1, fun h1 => ⟨hn, h1, h⟩⟩
end Go.Proofs.Ythgjlofebicpiaa.Zone

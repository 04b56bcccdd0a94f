/-
  The mathematics of package zone, continued: what is asked of one of the zones. No program.
-/
import Derived.Test.YtdacdnpghngiiaaZoneM
namespace Go.Proofs.Ytdacdnpghngiiaa.Zone
open Geom

/-- one zone is turned by T, which is told whether there is room for one more open zone -/
def turnL (T : Bool → Z → Z × Int) (conv seq opn : Int) (L : List Z) (zone : Int) : List Z × Int :=
  if hasB conv seq zone = true then (L.set zone.toNat (T (decide ((cnt L : Int) < opn)) (zat L zone)).1, (T (decide ((cnt L : Int) < opn)) (zat L zone)).2) else (L, 6)
theorem turnL_no {T : Bool → Z → Z × Int} {conv seq opn : Int} {L : List Z} {zone : Int} (h : hasB conv seq zone = false) : turnL T conv seq opn L zone = (L, 6) := if_neg (by simp [h])
theorem turnL_yes {T : Bool → Z → Z × Int} {conv seq opn : Int} {L : List Z} {k : Nat} {z z' : Z} {e : Int} (h : hasB conv seq k = true) (hz : L[k]? = some z) (ht : T (decide ((cnt L : Int) < opn)) z = (z', e)) : turnL T conv seq opn L k = (L.set k z', e) := by
  have hz2 : zat L (k : Int) = z := by simp [zat, hz]
  unfold turnL
  rw [if_pos h, hz2, ht]
  rfl
theorem has_in {conv seq zone : Int} (h : hasB conv seq zone = true) : 0 ≤ zone ∧ zone < conv + seq := of_decide_eq_true h
theorem has_no {conv seq zone : Int} (h : ¬ (0 ≤ zone ∧ zone < conv + seq)) : hasB conv seq zone = false := decide_eq_false h
theorem has_yes {conv seq zone : Int} (h : 0 ≤ zone ∧ zone < conv + seq) : hasB conv seq zone = true := decide_eq_true h
theorem in_in {conv soft seq size zone off : Int} (h : inB conv soft seq size zone off = true) : 0 ≤ off ∧ off < sectors conv soft seq size zone := of_decide_eq_true h
theorem in_has {conv soft seq size zone off : Int} (h : inB conv soft seq size zone off = true) : hasB conv seq zone = true := by
  obtain ⟨h1, h2⟩ := in_in h
  refine has_yes ?_
  unfold sectors at h2
  split at h2
  · omega
  · omega
theorem in_bd {conv soft seq size zone off : Int} (h : inB conv soft seq size zone off = true) (hs : soft ≤ 65536) (hz : size ≤ 256) : 0 ≤ off ∧ off ≤ 65536 := by
  obtain ⟨h1, h2⟩ := in_in h
  unfold sectors at h2
  split at h2
  · omega
  · split at h2 <;> omega

/-- Write; why a sector can't be read -/
def writeL (conv soft seq size opn : Int) (L : List Z) (zone off : Int) : List Z × Int :=
  if inB conv soft seq size zone off = true then turnL (fun b z => writeZ off size b z) conv seq opn L zone else (L, 6)
def readE (conv soft seq size : Int) (L : List Z) (zone off : Int) : Int :=
  if inB conv soft seq size zone off = true then (if (zat L zone).1 ≠ 4 ∧ (zat L zone).2 ≤ off then 4 else 0) else 6
theorem turnL_eq (T : Bool → Z → Z × Int) (conv seq opn : Int) (L : List Z) (zone : Int) (h : hasB conv seq zone = true) :
    turnL T conv seq opn L zone = (L.set zone.toNat (T (decide ((cnt L : Int) < opn)) (zat L zone)).1, (T (decide ((cnt L : Int) < opn)) (zat L zone)).2) := if_pos h
section
variable (conv soft seq size opn : Int) (L : List Z) (zone off : Int)
theorem act_0 : act conv soft seq size opn L 0 zone off = writeL conv soft seq size opn L zone off := by
  unfold act writeL
  by_cases h : hasB conv seq zone = true
  · by_cases h2 : inB conv soft seq size zone off = true
    · rw [if_neg (by decide), if_neg (by simp [h]), if_neg (by simp [h2]), if_neg (by decide), if_pos h2, turnL_eq _ _ _ _ _ _ h]
      rfl
    · rw [if_neg (by decide), if_neg (by simp [h]), if_pos ⟨.inl rfl, by simpa using h2⟩, if_neg h2]
  · have h2 : ¬ inB conv soft seq size zone off = true := fun h2 => h (in_has h2)
    rw [if_neg (by decide), if_pos (by simpa using h), if_neg h2]
theorem act_1 : act conv soft seq size opn L 1 zone off = (L, readE conv soft seq size L zone off) := by
  unfold act readE
  by_cases h : hasB conv seq zone = true
  · by_cases h2 : inB conv soft seq size zone off = true
    · rw [if_neg (by decide), if_neg (by simp [h]), if_neg (by simp [h2]), if_pos rfl, if_pos h2]
    · rw [if_neg (by decide), if_neg (by simp [h]), if_pos ⟨.inr rfl, by simpa using h2⟩, if_neg h2]
  · have h2 : ¬ inB conv soft seq size zone off = true := fun h2 => h (in_has h2)
    rw [if_neg (by decide), if_pos (by simpa using h), if_neg h2]
theorem act_k (k : Int) (T : Bool → Z → Z × Int) (h0 : k ≠ 0) (h1 : k ≠ 1) (h6 : k ≠ 6) (hT : ∀ b z, turn k off size b z = T b z) : act conv soft seq size opn L k zone off = turnL T conv seq opn L zone := by
  unfold act
  by_cases h : hasB conv seq zone = true
  · rw [if_neg h6, if_neg (by simp [h]), if_neg (by simp [h0, h1]), if_neg h1, turnL_eq _ _ _ _ _ _ h, hT]
  · rw [if_neg h6, if_pos (by simpa using h), turnL_no (by simpa using h)]
theorem act_2 : act conv soft seq size opn L 2 zone off = turnL (fun _ z => resetZ z) conv seq opn L zone := act_k _ _ _ _ _ _ _ _ 2 _ (by decide) (by decide) (by decide) (fun _ _ => rfl)
theorem act_3 : act conv soft seq size opn L 3 zone off = turnL (fun _ z => finishZ z) conv seq opn L zone := act_k _ _ _ _ _ _ _ _ 3 _ (by decide) (by decide) (by decide) (fun _ _ => rfl)
theorem act_4 : act conv soft seq size opn L 4 zone off = turnL (fun b z => openZ b z) conv seq opn L zone := act_k _ _ _ _ _ _ _ _ 4 _ (by decide) (by decide) (by decide) (fun _ _ => rfl)
theorem act_5 : act conv soft seq size opn L 5 zone off = turnL (fun _ z => closeZ z) conv seq opn L zone := act_k _ _ _ _ _ _ _ _ 5 _ (by decide) (by decide) (by decide) (fun _ _ => rfl)
theorem act_6 : act conv soft seq size opn L 6 zone off = (L.map pow, 0) := if_pos rfl
end

theorem turnL_length (T : Bool → Z → Z × Int) (conv seq opn : Int) (L : List Z) (zone : Int) : (turnL T conv seq opn L zone).1.length = L.length := by
  unfold turnL
  split <;> simp
theorem act_length (conv soft seq size opn : Int) (L : List Z) (k zone off : Int) : (act conv soft seq size opn L k zone off).1.length = L.length := by
  unfold act
  split
  · simp
  · split
    · rfl
    · split
      · rfl
      · split
        · rfl
        · simp
theorem act_other (conv soft seq size opn : Int) (L : List Z) (k zone off : Int) (h6 : k ≠ 6) (j : Nat) (hj : (j : Int) ≠ zone) : (act conv soft seq size opn L k zone off).1[j]? = L[j]? := by
  unfold act
  rw [if_neg h6]
  split
  · rfl
  · rename_i hh
    split
    · rfl
    · split
      · rfl
      · have := has_in (show hasB conv seq zone = true by simpa using hh)
        exact List.getElem?_set_ne (by omega)
theorem pow_pow (z : Z) : pow (pow z) = pow z := by
  unfold pow
  by_cases h : z.1 = 1
  · rw [if_pos h]
    by_cases h2 : z.2 = 0
    · rw [show rest z = (0, 0) from if_pos h2]
      rfl
    · rw [show rest z = (2, z.2) from if_neg h2]
      rfl
  · rw [if_neg h, if_neg h]
theorem pow_twice (L : List Z) : (L.map pow).map pow = L.map pow := by
  rw [List.map_map]
  exact List.map_congr_left fun z _ => pow_pow z

/-- the first k zones without power -/
def powK (L : List Z) (k : Nat) : List Z := (L.take k).map pow ++ L.drop k
theorem powK_zero (L : List Z) : powK L 0 = L := by simp [powK]
theorem powK_all {L : List Z} {k : Nat} (h : L.length = k) : powK L k = L.map pow := by subst h; simp [powK]
theorem powK_get {L : List Z} {k : Nat} {z : Z} (h : L[k]? = some z) : (powK L k)[k]? = some z := by
  have hk := (List.getElem?_eq_some_iff.1 h).1
  unfold powK
  rw [List.getElem?_append_right (by simp; omega)]
  simp only [List.length_map, List.length_take, Nat.min_eq_left (Nat.le_of_lt hk), Nat.sub_self]
  rw [List.getElem?_drop]
  simpa using h
theorem powK_set {L : List Z} {k : Nat} {z : Z} (h : L[k]? = some z) : (powK L k).set k (pow z) = powK L (k + 1) := by
  have hk := (List.getElem?_eq_some_iff.1 h).1
  have hl : ((L.take k).map pow).length = k := by simp; omega
  have hd : L.drop k = z :: L.drop (k + 1) := by
    rw [List.drop_eq_getElem_cons hk]
    congr 1
    rw [List.getElem?_eq_getElem hk] at h
    injection h
  unfold powK
  rw [List.set_append_right _ _ (by omega), hl, Nat.sub_self, hd, take_succ h, List.map_append, List.append_assoc]
  rfl
theorem powK_keep {L : List Z} {k : Nat} {z : Z} (h : L[k]? = some z) (hz : pow z = z) : powK L k = powK L (k + 1) := by
  have h2 := powK_set h
  rw [hz] at h2
  rw [← h2]
  apply List.ext_getElem?
  intro j
  by_cases hj : j = k
  · subst hj
    rw [List.getElem?_set_self (List.getElem?_eq_some_iff.1 (powK_get h)).1, powK_get h]
  · rw [List.getElem?_set_ne (Ne.symm hj)]
end Go.Proofs.Ytdacdnpghngiiaa.Zone

/-
  ZoneV DevS
-/
import Derived.Test.YthgjlofebicpiaaMg18
import Derived.Test.YthgjlofebicpiaaMg30
/-
  The mathematics of package zone: right zones stay right; what isn't done changes nothing; pointers. No program.
-/
namespace Go.Proofs.Ythgjlofebicpiaa.Zone
open Geom

theorem turn_fit {conv size k off : Int} {room : Bool} {i : Nat} {z : Z} (hs : 8 ≤ size) (h : fitZ conv size i z) : fitZ conv size i (turn k off size room z).1 := by
  obtain ⟨s, p⟩ := z
  unfold fitZ at h
  unfold turn writeZ resetZ finishZ openZ closeZ rest
  dsimp only at *
  repeat' split
  all_goals
    unfold fitZ
    dsimp only
    omega
theorem pow_fit {conv size : Int} {i : Nat} {z : Z} (hs : 8 ≤ size) (h : fitZ conv size i z) : fitZ conv size i (pow z) := by
  obtain ⟨s, p⟩ := z
  unfold fitZ at h
  unfold pow rest
  dsimp only at *
  repeat' split
  all_goals
    unfold fitZ
    dsimp only
    omega
theorem turn_err {k off size : Int} {room : Bool} {z : Z} (h : (turn k off size room z).2 ≠ 0) : (turn k off size room z).1 = z := by
  obtain ⟨s, p⟩ := z
  unfold turn writeZ resetZ finishZ openZ closeZ rest at *
  dsimp only at *
  repeat' split
  all_goals
    first
    | rfl
    | (exfalso; revert h; repeat' split) <;> simp_all
theorem turn_open {k off size : Int} {room : Bool} {z : Z} (h : (turn k off size room z).1.1 = 1) : z.1 = 1 ∨ room = true := by
  obtain ⟨s, p⟩ := z
  unfold turn writeZ resetZ finishZ openZ closeZ rest at h
  dsimp only at *
  revert h
  repeat' split
  all_goals
    dsimp only
    intro h
    first
    | omega
    | (simp_all)
theorem turn_point {conv size k off : Int} {room : Bool} {i : Nat} {z : Z} (h : fitZ conv size i z) :
    (turn k off size room z).1.2 - z.2 ≤ 1 ∧ ((turn k off size room z).1.2 - z.2 = 1 → k = 0) ∧ ((turn k off size room z).1.2 - z.2 < 0 → k = 2) := by
  obtain ⟨s, p⟩ := z
  unfold fitZ at h
  unfold turn writeZ resetZ finishZ openZ closeZ rest
  dsimp only at *
  repeat' split
  all_goals
    dsimp only
    omega
theorem pow_point (z : Z) : (pow z).2 = z.2 := by
  obtain ⟨s, p⟩ := z
  unfold pow rest
  dsimp only
  repeat' split
  all_goals first
    | rfl
    | omega
    | (dsimp only; omega)
theorem pow_shut (z : Z) : (pow z).1 ≠ 1 := by
  obtain ⟨s, p⟩ := z
  unfold pow rest
  dsimp only
  repeat' split
  all_goals first
    | decide
    | (dsimp only; omega)
    | assumption
theorem cnt_pow (L : List Z) : cnt (L.map pow) = 0 := by
  unfold cnt
  rw [List.countP_eq_zero]
  intro z hz
  obtain ⟨y, _, rfl⟩ := List.mem_map.1 hz
  have := pow_shut y
  simpa using this
theorem cnt_set {L : List Z} {i : Nat} {z z' : Z} (h : L[i]? = some z) (hz : z'.1 = 1 → z.1 = 1) : cnt (L.set i z') ≤ cnt L := by
  obtain ⟨hi, he⟩ := List.getElem?_eq_some_iff.1 h
  unfold cnt
  rw [List.countP_set hi, he]
  by_cases h1 : z'.1 = 1
  · have h2 := hz h1
    have h3 : 0 < L.countP (fun z => z.1 == 1) := List.countP_pos_iff.2 ⟨z, List.mem_of_getElem? h, by simpa using h2⟩
    simp [h1, h2]
    omega
  · simp [h1]
theorem cnt_set1 {L : List Z} {i : Nat} {z z' : Z} (h : L[i]? = some z) : cnt (L.set i z') ≤ cnt L + 1 := by
  obtain ⟨hi, he⟩ := List.getElem?_eq_some_iff.1 h
  unfold cnt
  rw [List.countP_set hi]
  split <;> split <;> omega

section
variable {conv soft seq size opn : Int} {L : List Z} {k zone off : Int}
/-- what becomes of the zone that is meant -/
theorem act_cases (h6 : k ≠ 6) : (act conv soft seq size opn L k zone off).1 = L ∨
    ((act conv soft seq size opn L k zone off) = (L.set zone.toNat (turn k off size (decide ((cnt L : Int) < opn)) (zat L zone)).1, (turn k off size (decide ((cnt L : Int) < opn)) (zat L zone)).2) ∧ 0 ≤ zone ∧ zone < conv + seq) := by
  unfold act
  rw [if_neg h6]
  by_cases hh : hasB conv seq zone = true
  · rw [if_neg (by simp [hh])]
    split
    · exact .inl rfl
    · split
      · exact .inl rfl
      · exact .inr ⟨rfl, has_in hh⟩
  · rw [if_pos (by simpa using hh)]
    exact .inl rfl
theorem zat_get (hn : (L.length : Int) = conv + seq) (h0 : 0 ≤ zone) (h1 : zone < conv + seq) : L[zone.toNat]? = some (zat L zone) := getD_of (by omega)

theorem act_fit (hs : 8 ≤ size) (h : Fit conv seq size opn L) : Fit conv seq size opn (act conv soft seq size opn L k zone off).1 := by
  obtain ⟨hn, hc, hf⟩ := h
  by_cases h6 : k = 6
  · subst h6
    rw [act_6]
    refine ⟨by simpa using hn, by rw [cnt_pow]; omega, fun i hi => ?_⟩
    have hi2 : i < L.length := by simpa using hi
    have h1 := pow_fit hs (hf i hi2)
    rw [List.getD_eq_getElem?_getD] at h1 ⊢
    rw [List.getElem?_map]
    rw [List.getElem?_eq_getElem hi2] at h1 ⊢
    exact h1
  · rcases act_cases (conv := conv) (soft := soft) (seq := seq) (size := size) (opn := opn) (L := L) (zone := zone) (off := off) h6 with h1 | ⟨h1, h2, h3⟩
    · rw [h1]
      exact ⟨hn, hc, hf⟩
    · rw [h1]
      have hz := zat_get hn h2 h3
      refine ⟨by simpa using hn, ?_, fun i hi => ?_⟩
      · by_cases ho : (turn k off size (decide ((cnt L : Int) < opn)) (zat L zone)).1.1 = 1 → (zat L zone).1 = 1
        · have := cnt_set hz ho
          show (cnt (L.set _ _) : Int) ≤ opn
          omega
        · have h4 : decide ((cnt L : Int) < opn) = true := by
            rcases Classical.em ((turn k off size (decide ((cnt L : Int) < opn)) (zat L zone)).1.1 = 1) with h5 | h5
            · rcases turn_open h5 with h6 | h6
              · exact absurd (fun _ => h6) ho
              · exact h6
            · exact absurd (fun h => absurd h h5) ho
          have h5 := of_decide_eq_true h4
          have := cnt_set1 (z' := (turn k off size (decide ((cnt L : Int) < opn)) (zat L zone)).1) hz
          show (cnt (L.set _ _) : Int) ≤ opn
          omega
      · have hi2 : i < L.length := by simpa using hi
        by_cases e : i = zone.toNat
        · subst e
          rw [List.getD_eq_getElem?_getD, List.getElem?_set_self hi2]
          exact turn_fit hs (hf _ hi2)
        · rw [List.getD_eq_getElem?_getD, List.getElem?_set_ne (Ne.symm e), ← List.getD_eq_getElem?_getD]
          exact hf i hi2
theorem act_err (hn : (L.length : Int) = conv + seq) (h : (act conv soft seq size opn L k zone off).2 ≠ 0) : (act conv soft seq size opn L k zone off).1 = L := by
  by_cases h6 : k = 6
  · subst h6
    rw [act_6] at h
    exact absurd rfl h
  · rcases act_cases (conv := conv) (soft := soft) (seq := seq) (size := size) (opn := opn) (L := L) (zone := zone) (off := off) h6 with h1 | ⟨h1, h2, h3⟩
    · exact h1
    · rw [h1] at h ⊢
      have hz := zat_get hn h2 h3
      show L.set _ _ = L
      rw [turn_err h]
      apply List.ext_getElem?
      intro j
      by_cases e : j = zone.toNat
      · subst e
        rw [List.getElem?_set_self (List.getElem?_eq_some_iff.1 hz).1, hz]
      · rw [List.getElem?_set_ne (Ne.symm e)]
/-- how a pointer goes -/
theorem act_point (h : Fit conv seq size opn L) {j : Nat} {z z' : Z} (hz : L[j]? = some z) (hz' : (act conv soft seq size opn L k zone off).1[j]? = some z') :
    z'.2 - z.2 ≤ 1 ∧ (z'.2 - z.2 = 1 → k = 0 ∧ (j : Int) = zone) ∧ (z'.2 - z.2 < 0 → k = 2 ∧ (j : Int) = zone) := by
  obtain ⟨hn, hc, hf⟩ := h
  have hj := (List.getElem?_eq_some_iff.1 hz).1
  by_cases h6 : k = 6
  · subst h6
    rw [act_6, List.getElem?_map, hz] at hz'
    obtain rfl : pow z = z' := by simpa using hz'
    rw [pow_point]
    omega
  · by_cases e : (j : Int) = zone
    · rcases act_cases (conv := conv) (soft := soft) (seq := seq) (size := size) (opn := opn) (L := L) (zone := zone) (off := off) h6 with h1 | ⟨h1, h2, h3⟩
      · rw [h1, hz] at hz'
        obtain rfl : z = z' := by simpa using hz'
        omega
      · rw [h1] at hz'
        have e2 : zone.toNat = j := by omega
        have hza : zat L zone = z := by unfold zat; rw [List.getD_eq_getElem?_getD, e2, hz]; rfl
        rw [e2, hza, List.getElem?_set_self hj] at hz'
        obtain rfl := Option.some.inj hz'
        have h4 := hf j hj
        rw [List.getD_eq_getElem?_getD, hz] at h4
        obtain ⟨t1, t2, t3⟩ := turn_point (k := k) (off := off) (room := decide ((cnt L : Int) < opn)) h4
        exact ⟨t1, fun h => ⟨t2 h, e⟩, fun h => ⟨t3 h, e⟩⟩
    · rw [act_other conv soft seq size opn L k zone off h6 j e, hz] at hz'
      obtain rfl : z = z' := by simpa using hz'
      omega
theorem fit_point (h : Fit conv seq size opn L) (hs : 8 ≤ size) {j : Nat} {z : Z} (hz : L[j]? = some z) : 0 ≤ z.2 ∧ z.2 ≤ size := by
  have hj := (List.getElem?_eq_some_iff.1 hz).1
  have h4 := h.2.2 j hj
  rw [List.getD_eq_getElem?_getD, hz] at h4
  unfold fitZ at h4
  simp only [Option.getD_some] at h4
  omega
end
theorem fit_new {conv seq size opn : Int} {n : Nat} (hn : (n : Int) = conv + seq) (hc : 0 ≤ conv) (hq : 0 ≤ seq) (ho : 0 ≤ opn) : Fit conv seq size opn (newK n conv.toNat) := by
  have hl := newK_length (show conv.toNat ≤ n by omega)
  refine ⟨by rw [hl]; exact hn, by rw [show cnt (newK n conv.toNat) = 0 from by
    unfold cnt newK
    rw [List.countP_eq_zero]
    intro z hz
    rw [List.mem_append, List.mem_replicate, List.mem_replicate] at hz
    rcases hz with ⟨_, rfl⟩ | ⟨_, rfl⟩ <;> decide]; exact ho, fun i hi => ?_⟩
  rw [hl] at hi
  rw [List.getD_eq_getElem?_getD, newK_get (by omega) hi]
  unfold fitZ
  by_cases h : i < conv.toNat
  · rw [if_pos h]
    exact .inl ⟨by omega, rfl, rfl⟩
  · rw [if_neg h]
    exact .inr ⟨by omega, .inl ⟨rfl, rfl⟩⟩
end Go.Proofs.Ythgjlofebicpiaa.Zone

/-
  Package dev: Finish, Reset, whole.
-/
namespace Go.Proofs.Ythgjlofebicpiaa
open Go.RowKit Geom Zone Dev
set_option linter.unusedVariables false

theorem fit_finish {conv soft seq size opn zone : Int} {L : List Z} (hs : 8 ≤ size) (h : Fit conv seq size opn L) : Fit conv seq size opn (turnL (fun _ z => finishZ z) conv seq opn L zone).1 := by
  have := act_fit (soft := soft) (k := 3) (zone := zone) (off := 0) hs h
  have e : act conv soft seq size opn L 3 zone 0 = turnL (fun _ z => finishZ z) conv seq opn L zone := by
    unfold act turnL turn
    by_cases hb : hasB conv seq zone = true <;> simp [hb]
  rwa [e] at this
theorem fit_reset {conv soft seq size opn zone : Int} {L : List Z} (hs : 8 ≤ size) (h : Fit conv seq size opn L) : Fit conv seq size opn (turnL (fun _ z => resetZ z) conv seq opn L zone).1 := by
  have := act_fit (soft := soft) (k := 2) (zone := zone) (off := 0) hs h
  have e : act conv soft seq size opn L 2 zone 0 = turnL (fun _ z => resetZ z) conv seq opn L zone := by
    unfold act turnL turn
    by_cases hb : hasB conv seq zone = true <;> simp [hb]
  rwa [e] at this
theorem fit_write {conv soft seq size opn zone off : Int} {L : List Z} (hs : 8 ≤ size) (h : Fit conv seq size opn L) : Fit conv seq size opn (writeL conv soft seq size opn L zone off).1 := by
  have := act_fit (soft := soft) (k := 0) (zone := zone) (off := off) hs h
  unfold writeL
  by_cases hi : inB conv soft seq size zone off = true
  · rw [if_pos hi]
    have e : act conv soft seq size opn L 0 zone off = turnL (fun b z => writeZ off size b z) conv seq opn L zone := by
      unfold act turnL turn
      by_cases hb : hasB conv seq zone = true <;> simp [hb, hi]
    rwa [e] at this
  · rw [if_neg hi]
    exact h
theorem DvOk.withL {D : Dv} (h : DvOk D) {L' : List Z} (hf : Fit D.conv D.seq D.size D.opn L') : DvOk { D with L := L' } :=
  ⟨h.ok, h.ns, h.nl, hf, h.wok, h.place, h.pages, h.use, h.cl, h.ill0, h.ill1, h.arm0, h.arm1⟩
namespace Dev
def finishD (D : Dv) (z : Int) : Int × Dv :=
  if D.down = true then (2, D)
  else if (turnL (fun _ z => finishZ z) D.conv D.seq D.opn D.L z).2 ≠ 0 then ((turnL (fun _ z => finishZ z) D.conv D.seq D.opn D.L z).2, { D with ill := D.ill + 1 })
  else (0, tick (sortD (zstep z 1) { D with L := (turnL (fun _ z => finishZ z) D.conv D.seq D.opn D.L z).1 }))
end Dev
section
variable {w : World} {d : Nat} {T : Nat → Prop} {D : Dv}
end
end Go.Proofs.Ythgjlofebicpiaa

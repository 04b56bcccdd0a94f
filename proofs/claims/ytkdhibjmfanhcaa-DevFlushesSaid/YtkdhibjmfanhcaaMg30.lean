/-
  DevSk
-/
import Derived.Test.YtkdhibjmfanhcaaMg29
/-
  The torn sector of a crash; the answer's disk behind a crash, beside the device.
-/
namespace Go.Proofs.Ytkdhibjmfanhcaa
open Go.RowKit Geom Zone Dev
set_option linter.unusedVariables false

namespace Dev
theorem ckAll_snoc (conv : Int) (keep : List Int) (soft0 : Int) (c : Wr) : ∀ (r : List Wr) (s : CK), ckAll conv keep soft0 (r ++ [c]) s = ckStep conv keep soft0 (ckAll conv keep soft0 r s) c
  | [], s => rfl
  | x :: r, s => ckAll_snoc conv keep soft0 c r _
/-- the cell of the torn sector -/
def tornK (conv tear : Int) (safe0 safe : List Wr) (c : Wr) : Wr :=
  (c.1, c.2.1, c.2.2.take (min tear 64).toNat ++ ((if c.1 < conv then ((fnd safe c.pl).or (fnd safe0 c.pl)).getD z64 else z64).drop (min tear 64).toNat))
/-- what lasts behind a crash -/
def safeK (conv : Int) (keep : List Int) (soft0 tear : Int) (d : Dk) : List Wr :=
  match d.cached.getLast? with
  | none => d.safe
  | some c =>
    let s' := ckAll conv keep soft0 d.cached.dropLast (ck0 soft0 d.safe)
    let s := ckStep conv keep soft0 s' c
    if ckLeft conv keep soft0 s' c = false ∧ ckNext conv keep s' c = true ∧ 0 < tear then s.safe ++ [tornK conv tear d.safe s.safe c] else s.safe
theorem safeK_nil {conv : Int} {keep : List Int} {soft0 tear : Int} {d : Dk} (h : d.cached = []) : safeK conv keep soft0 tear d = (ckAll conv keep soft0 d.cached (ck0 soft0 d.safe)).safe := by
  unfold safeK
  rw [h]
  rfl
theorem safeK_snoc {conv : Int} {keep : List Int} {soft0 tear : Int} {d : Dk} {r : List Wr} {c : Wr} (h : d.cached = r ++ [c]) : safeK conv keep soft0 tear d =
    if ckLeft conv keep soft0 (ckAll conv keep soft0 r (ck0 soft0 d.safe)) c = false ∧ ckNext conv keep (ckAll conv keep soft0 r (ck0 soft0 d.safe)) c = true ∧ 0 < tear then
      (ckAll conv keep soft0 d.cached (ck0 soft0 d.safe)).safe ++ [tornK conv tear d.safe (ckAll conv keep soft0 d.cached (ck0 soft0 d.safe)).safe c] else (ckAll conv keep soft0 d.cached (ck0 soft0 d.safe)).safe := by
  unfold safeK
  rw [h]
  simp only [List.getLast?_append, List.getLast?_singleton, Option.some_or, List.dropLast_concat, ckAll_snoc]
theorem zat_pow (L : List Z) (z : Int) : zat (L.map pow) z = pow (zat L z) := by
  unfold zat
  rw [List.getD_eq_getElem?_getD, List.getElem?_map, List.getD_eq_getElem?_getD]
  cases L[z.toNat]? <;> rfl
theorem write_ne {conv soft seq size opn : Int} {L : List Z} {y o z : Int} (hz : 0 ≤ z) (h : z ≠ y) : zat (writeL conv soft seq size opn L y o).1 z = zat L z := by
  unfold writeL
  split
  · rename_i hin
    have hh := in_has hin
    rw [turnL_eq _ _ _ _ _ _ hh]
    exact zat_ne _ (has_in hh).1 hz h
  · rfl
theorem tear_ne {conv soft seq size opn : Int} {L : List Z} {last : Pl → Option Value} {c : Wr} {tn : Nat} {p : List Int} {z : Int} (hz : 0 ≤ z) (h : z ≠ c.1) :
    zat (tearL conv soft seq size opn (L.map pow) last c tn p).1 z = pow (zat L z) ∧ ∀ i, (tearL conv soft seq size opn (L.map pow) last c tn p).2 (z, i) = last (z, i) := by
  unfold tearL
  split
  · refine ⟨?_, fun i => ?_⟩
    · show zat ((writeL conv soft seq size opn (L.map pow) c.1 c.2.1).1.map pow) z = _
      rw [zat_pow, write_ne hz h, zat_pow, pow_pow]
    · show updM last c.pl _ (z, i) = _
      unfold updM
      rw [if_neg]
      intro e
      exact h (congrArg Prod.fst e)
  · exact ⟨zat_pow _ _, fun i => rfl⟩

/-- a sequential zone behind a crash -/
def FinZ (D : Dv) (d : Dk) (keep : List Int) (soft0 tear z : Int) : Prop :=
  ∃ n : Int, 0 ≤ n ∧ n ≤ D.size ∧ (∀ i, (fnd (safeK D.conv keep soft0 tear d) (z, i)).isSome = true ↔ 0 ≤ i ∧ i < n) ∧ (∀ i, (crashD D keep soft0 tear).last (z, i) = (fnd (safeK D.conv keep soft0 tear d) (z, i)).map pgv) ∧
    zat (crashD D keep soft0 tear).L z = shutZ (decide (z ∈ d.done)) D.size n
theorem fin_same {D : Dv} {d : Dk} {keep : List Int} {soft0 tear z : Int} (h : Sim D d) (hO : DvOk D) (z0 : D.conv ≤ z) (z1 : z < D.conv + D.seq) (h1 : zat (crashD D keep soft0 tear).L z = pow (zat (crashS D keep soft0).1.L z)) (h2 : ∀ i, (crashD D keep soft0 tear).last (z, i) = (crashS D keep soft0).2.2 (z, i))
    (h3 : ∀ i, fnd (safeK D.conv keep soft0 tear d) (z, i) = fnd (ckAll D.conv keep soft0 d.cached (ck0 soft0 d.safe)).safe (z, i)) : FinZ D d keep soft0 tear z := by
  obtain ⟨q, k, q0, q3, q4, q5, C⟩ := crash_seq h hO keep soft0 z0 z1
  have hcv := hO.ok.1
  have hsz := hO.ok.2.2.2.1
  have hf := fit_seq hsz hO.fit (by omega) z0 z1
  have hkp := kp_nn D.conv keep z
  refine ⟨q + min (k : Int) (kpOf D.conv keep z), by omega, by omega, fun i => by rw [h3]; exact C.safe i, fun i => by rw [h2, h3]; exact C.last i, ?_⟩
  rw [h1]
  exact ci_shut hsz (by omega) hO.fit z0 z1 q0 q3 q4 q5 C
theorem fin_other {D : Dv} {d : Dk} (keep : List Int) (soft0 tear : Int) {z : Int} {r : List Wr} {c : Wr} (h : Sim D d) (hO : DvOk D) (z0 : D.conv ≤ z) (z1 : z < D.conv + D.seq) (hc : d.cached = r ++ [c]) (hz : z ≠ c.1) : FinZ D d keep soft0 tear z := by
  have hcv := hO.ok.1
  have hcl : (crashS D keep soft0).1.last = c := by
    unfold crashS
    rw [← h.cache, hc, stl_snoc]
    unfold crs
    split <;> rfl
  have e := crashD_eq D keep soft0 tear _ _ _ (show crashS D keep soft0 = ((crashS D keep soft0).1, (crashS D keep soft0).2.1, (crashS D keep soft0).2.2) from rfl)
  have hT := tear_ne (conv := D.conv) (soft := D.soft) (seq := D.seq) (size := D.size) (opn := D.opn) (L := (crashS D keep soft0).1.L) (last := (crashS D keep soft0).2.2) (c := (crashS D keep soft0).1.last) (tn := (min tear 64).toNat) (p := unpg ((crashS D keep soft0).2.2 (crashS D keep soft0).1.last.pl)) (show 0 ≤ z by omega) (by rw [hcl]; exact hz)
  refine fin_same h hO z0 z1 ?_ (fun i => ?_) (fun i => ?_)
  · rw [e]
    show zat (if _ then _ else _ : List Z × (Pl → Option Value)).1 z = _
    split
    · exact hT.1
    · exact zat_pow _ _
  · rw [e]
    show (if _ then _ else _ : List Z × (Pl → Option Value)).2 (z, i) = _
    split
    · exact hT.2 i
    · rfl
  · rw [safeK_snoc hc]
    split
    · rw [fnd_snoc, if_neg]
      intro e
      exact hz (congrArg Prod.fst e)
    · rfl
theorem fin_nil {D : Dv} {d : Dk} (keep : List Int) (soft0 tear : Int) {z : Int} (h : Sim D d) (hO : DvOk D) (z0 : D.conv ≤ z) (z1 : z < D.conv + D.seq) (hc : d.cached = []) : FinZ D d keep soft0 tear z := by
  have hn := crash_none (D := D) (by rw [← h.cache]; exact hc) keep soft0 tear
  have hS : crashS D keep soft0 = (⟨soft0, List.replicate D.n 0, true, (0, 0, z64), D.L⟩, [], D.last) := by
    unfold crashS
    rw [← h.cache, hc]
    rfl
  refine fin_same h hO z0 z1 ?_ (fun i => ?_) (fun i => by rw [safeK_nil hc])
  · rw [hn.1, hS]; exact zat_pow _ _
  · rw [hn.2.1, hS]

theorem fin_last {D : Dv} {d : Dk} (keep : List Int) (soft0 tear : Int) {z : Int} {r : List Wr} {c : Wr} (h : Sim D d) (hO : DvOk D) (z0 : D.conv ≤ z) (z1 : z < D.conv + D.seq) (hc : d.cached = r ++ [c]) (hz : c.1 = z) : FinZ D d keep soft0 tear z := by
  obtain ⟨q, k, q0, q1, q2, q3, q4, q5⟩ := h.zi z z0 z1
  have hcv := hO.ok.1
  have hsz := hO.ok.2.2.2.1
  have hop := hO.ok.2.2.2.2
  have h64 := hO.ok.2.2.1
  have hlen := hO.fit.1
  have hns := hO.ns
  have hf := fit_seq hsz hO.fit (by omega) z0 z1
  have hkp := kp_nn D.conv keep z
  have hcD : D.cache = r ++ [c] := by rw [← h.cache]; exact hc
  have C := crash_seq2 h hO keep soft0 z0 z1 q0 q1 q2 q3
  rw [hc, only_snoc, if_pos hz, List.map_append] at q2
  obtain ⟨k', rfl⟩ : ∃ k', k = k' + 1 := by
    cases k with
    | zero => simp at q2
    | succ k' => exact ⟨k', rfl⟩
  rw [List.range_succ, List.map_append] at q2
  obtain ⟨e1, e2⟩ := List.append_inj' q2 rfl
  have e2 : c.2.1 = q + (k' : Int) := by simpa using e2
  have hnd : z ∉ d.done := fun hx => by have := (q4 hx).1; omega
  have hdd : decide (z ∈ d.done) = false := decide_eq_false hnd
  have hrep : ∀ n j : Nat, (List.replicate n (0 : Int)).getD j 0 = 0 := fun n j => by
    rw [List.getD_eq_getElem?_getD, List.getElem?_replicate]
    split <;> rfl
  -- the zone ahead of the last cell
  have C' := crash_zone (soft0 := soft0) (conv := D.conv) (z := z) (q := q) (keep := keep) (Z0 := zat D.L z) (by omega) z0 q0 hf.1 r 0 k' (⟨soft0, List.replicate D.n 0, true, (0, 0, z64), D.L⟩, [], D.last) (ck0 soft0 d.safe)
    (fun x hx => (hO.place x (by rw [hcD]; exact List.mem_append_left _ hx)).1) (by simp; omega) (by show z.toNat < D.L.length; omega) (by simp [ck0]; omega) (by rw [e1]; refine List.map_congr_left fun j _ => ?_; simp) (by rw [q3]; simp; omega)
    ⟨hrep 64 z.toNat, (hrep D.n _).trans (by simp; omega), fun i => by show (fnd d.safe (z, i)).isSome = true ↔ _; rw [q1]; simp; omega, fun i => h.last (z, i) z0 z1, by rw [if_pos (by simpa using hkp)]⟩
  rw [Nat.zero_add] at C'
  have hpc := hO.place c (by rw [hcD]; simp)
  have hge : ¬ c.1 < D.conv := by omega
  have hpl1 : c.pl = (z, q + (k' : Int)) := by unfold Wr.pl; rw [hz, e2]
  have hS : crashS D keep soft0 = stl (crs D.conv keep) (r ++ [c]) (⟨soft0, List.replicate D.n 0, true, (0, 0, z64), D.L⟩, [], D.last) := by unfold crashS; rw [hcD]
  rw [stl_snoc] at hS
  obtain ⟨⟨σ1, kk, f1⟩, hσ⟩ : ∃ σ, stl (crs D.conv keep) r (⟨soft0, List.replicate D.n 0, true, (0, 0, z64), D.L⟩, [], D.last) = σ := ⟨_, rfl⟩
  rw [hσ] at hS C'
  have hleft : ckLeft D.conv keep soft0 (ckAll D.conv keep soft0 r (ck0 soft0 d.safe)) c = decide ((k' : Int) < kpOf D.conv keep z) := by unfold ckLeft; rw [if_neg hge, hz, C'.seen]
  have hnext : ckNext D.conv keep (ckAll D.conv keep soft0 r (ck0 soft0 d.safe)) c = ((k' : Int) == kpOf D.conv keep z) := by unfold ckNext; rw [if_neg hge, hz, C'.seen]
  have hkept : σ1.kept.getD (z - D.conv).toNat 0 = min (k' : Int) (kpOf D.conv keep z) := C'.kept
  have hCL := C.L
  have hCl := C.last
  have hCs := C.safe
  have e := crashD_eq D keep soft0 tear _ _ _ (show crashS D keep soft0 = ((crashS D keep soft0).1, (crashS D keep soft0).2.1, (crashS D keep soft0).2.2) from rfl)
  have hlast : (crashS D keep soft0).1.last = c := by
    rw [hS]
    show (crs D.conv keep σ1 c).2.last = c
    unfold crs
    split <;> rfl
  -- nothing is torn
  have hno : ((crashS D keep soft0).1.left = true ∨ ¬ 0 < tear) → (ckLeft D.conv keep soft0 (ckAll D.conv keep soft0 r (ck0 soft0 d.safe)) c = true ∨ ¬ 0 < tear) → FinZ D d keep soft0 tear z := fun hl hl2 => by
    have hcond : ¬ ((crashS D keep soft0).1.left = false ∧ 0 < tear) := fun hx => by
      rcases hl with hl | hl
      · rw [hl] at hx; exact Bool.noConfusion hx.1
      · exact hl hx.2
    refine fin_same h hO z0 z1 ?_ (fun i => ?_) (fun i => ?_)
    · rw [e]
      show zat (if _ then _ else _ : List Z × (Pl → Option Value)).1 z = _
      rw [if_neg hcond]
      exact zat_pow _ _
    · rw [e]
      show (if _ then _ else _ : List Z × (Pl → Option Value)).2 (z, i) = _
      rw [if_neg hcond]
    · rw [safeK_snoc hc, if_neg]
      rintro ⟨h1, _, h3⟩
      rcases hl2 with hl2 | hl2
      · rw [hl2] at h1; exact Bool.noConfusion h1
      · exact hl2 h3
  by_cases hlt : (k' : Int) < kpOf D.conv keep z
  · have hC : ¬ (keep.length ≤ (z - D.conv).toNat ∨ keep.getD (z - D.conv).toNat 0 ≤ σ1.kept.getD (z - D.conv).toNat 0) := by
      rw [hkept]
      unfold kpOf at hlt ⊢
      split at hlt <;> rename_i hh
      · rw [if_pos hh]; omega
      · omega
    refine hno (.inl ?_) (.inl (by rw [hleft]; exact decide_eq_true hlt))
    rw [hS]
    show (crs D.conv keep σ1 c).2.left = true
    unfold crs
    rw [hz, lvs_left z0 hC]
    rfl
  have hC : keep.length ≤ (z - D.conv).toNat ∨ keep.getD (z - D.conv).toNat 0 ≤ σ1.kept.getD (z - D.conv).toNat 0 := by
    rw [hkept]
    unfold kpOf at hlt ⊢
    split at hlt <;> rename_i hh
    · rw [if_pos hh]; omega
    · rw [if_neg hh]; omega
  have hlp : (crashS D keep soft0).1.left = false := by
    rw [hS]
    show (crs D.conv keep σ1 c).2.left = false
    unfold crs
    rw [hz, lvs_lost z0 hC]
    rfl
  by_cases ht : 0 < tear
  rotate_left
  · exact hno (.inr ht) (.inr ht)
  have hL1 : zat ((crashS D keep soft0).1.L.map pow) z = cutAt (q + kpOf D.conv keep z) := by
    rw [zat_pow, hCL, if_neg (show ¬ ((k' + 1 : Nat) : Int) ≤ kpOf D.conv keep z by omega)]
    unfold cutAt
    split <;> rfl
  have hcnt : cnt ((crashS D keep soft0).1.L.map pow) = 0 := cnt_pow _
  have hfit : Fit D.conv D.seq D.size D.opn (crashS D keep soft0).1.L := crs_fit hsz keep D.cache _ (fun c hc => by obtain ⟨p0, p1, p2, _⟩ := hO.place c hc; exact ⟨p0, by omega, p2⟩) hO.fit
  have hlen1 : z.toNat < ((crashS D keep soft0).1.L.map pow).length := by rw [List.length_map]; have := hfit.1; omega
  have hin : inB D.conv D.soft D.seq D.size z (q + k') = true := by
    have := hpc
    rw [hz, e2] at this
    exact decide_eq_true ⟨this.2.2.1, this.2.2.2⟩
  have hh : hasB D.conv D.seq z = true := has_yes ⟨by omega, z1⟩
  have hst : (cutAt (q + kpOf D.conv keep z)).1 ≠ 4 ∧ (cutAt (q + kpOf D.conv keep z)).1 ≠ 3 ∧ (cutAt (q + kpOf D.conv keep z)).2 = q + kpOf D.conv keep z := by
    unfold cutAt
    split
    · rename_i h0; rw [h0]; exact ⟨by decide, by decide, rfl⟩
    · exact ⟨by simp, by simp, rfl⟩
  have hcr := crashD_eq D keep soft0 tear _ _ _ (show crashS D keep soft0 = ((crashS D keep soft0).1, (crashS D keep soft0).2.1, (crashS D keep soft0).2.2) from rfl)
  rw [if_pos ⟨hlp, ht⟩, hlast] at hcr
  by_cases hk : (k' : Int) = kpOf D.conv keep z
  rotate_left
  · have hW : (writeL D.conv D.soft D.seq D.size D.opn ((crashS D keep soft0).1.L.map pow) c.1 c.2.1).2 = 4 := by
      rw [hz, e2]
      unfold writeL
      rw [if_pos hin, turnL_eq _ _ _ _ _ _ hh, hL1]
      simp only [writeZ]
      rw [if_neg hst.1, if_neg hst.2.1, if_pos (by rw [hst.2.2]; omega)]
    have hT : ∀ tn p, tearL D.conv D.soft D.seq D.size D.opn ((crashS D keep soft0).1.L.map pow) (crashS D keep soft0).2.2 c tn p = ((crashS D keep soft0).1.L.map pow, (crashS D keep soft0).2.2) := fun tn p => by
      unfold tearL
      rw [if_neg (by rw [hW]; decide)]
    rw [hT] at hcr
    refine fin_same h hO z0 z1 (by rw [hcr]; exact zat_pow _ _) (fun i => by rw [hcr]) (fun i => ?_)
    rw [safeK_snoc hc, if_neg]
    rintro ⟨_, h2, _⟩
    rw [hnext] at h2
    exact hk (by simpa using h2)
  · have hW : writeL D.conv D.soft D.seq D.size D.opn ((crashS D keep soft0).1.L.map pow) c.1 c.2.1 = (((crashS D keep soft0).1.L.map pow).set z.toNat (if q + kpOf D.conv keep z + 1 = D.size then 3 else 1, q + kpOf D.conv keep z + 1), 0) := by
      rw [hz, e2]
      unfold writeL
      rw [if_pos hin, turnL_eq _ _ _ _ _ _ hh, hL1, hcnt]
      simp only [writeZ]
      rw [if_neg hst.1, if_neg hst.2.1, if_neg (by rw [hst.2.2]; omega), if_pos (.inr (decide_eq_true (by simp; omega))), hst.2.2]
    have hnone : fnd (ckAll D.conv keep soft0 d.cached (ck0 soft0 d.safe)).safe (z, q + (k' : Int)) = none := by
      have := hCs (q + k')
      cases hf : fnd (ckAll D.conv keep soft0 d.cached (ck0 soft0 d.safe)).safe (z, q + (k' : Int)) with
      | none => rfl
      | some v =>
        rw [hf] at this
        have := this.1 rfl
        omega
    have hun : unpg ((crashS D keep soft0).2.2 c.pl) = z64 := by rw [hpl1, hCl, hnone]; rfl
    have hT : tearL D.conv D.soft D.seq D.size D.opn ((crashS D keep soft0).1.L.map pow) (crashS D keep soft0).2.2 c (min tear 64).toNat (unpg ((crashS D keep soft0).2.2 c.pl)) =
        ((((crashS D keep soft0).1.L.map pow).set z.toNat (if q + kpOf D.conv keep z + 1 = D.size then 3 else 1, q + kpOf D.conv keep z + 1)).map pow, updM (crashS D keep soft0).2.2 c.pl (some (pgv (c.2.2.take (min tear 64).toNat ++ z64.drop (min tear 64).toNat)))) := by
      unfold tearL
      rw [hW, if_pos rfl, hun]
    rw [hT] at hcr
    have hsk : safeK D.conv keep soft0 tear d = (ckAll D.conv keep soft0 d.cached (ck0 soft0 d.safe)).safe ++ [(c.1, c.2.1, c.2.2.take (min tear 64).toNat ++ z64.drop (min tear 64).toNat)] := by
      rw [safeK_snoc hc, if_pos ⟨by rw [hleft]; exact decide_eq_false hlt, by rw [hnext]; simpa using hk, ht⟩]
      unfold tornK
      rw [if_neg hge]
    refine ⟨q + kpOf D.conv keep z + 1, by omega, by omega, fun i => ?_, fun i => ?_, ?_⟩
    · rw [hsk, fnd_snoc]
      show (if (z, i) = c.pl then _ else _ : Option (List Int)).isSome = true ↔ _
      rw [hpl1]
      by_cases hi : i = q + k'
      · subst hi
        rw [if_pos rfl]
        simp
        omega
      · rw [if_neg (by simpa using hi), hCs]
        omega
    · rw [hcr, hsk, fnd_snoc]
      show updM (crashS D keep soft0).2.2 c.pl _ (z, i) = (if (z, i) = c.pl then _ else _ : Option (List Int)).map pgv
      unfold updM
      by_cases hi : (z, i) = c.pl
      · rw [if_pos hi, if_pos hi]; rfl
      · rw [if_neg hi, if_neg hi]; exact hCl i
    · rw [hcr]
      show zat ((((crashS D keep soft0).1.L.map pow).set z.toNat (if q + kpOf D.conv keep z + 1 = D.size then 3 else 1, q + kpOf D.conv keep z + 1)).map pow) z = _
      rw [zat_pow, zat_set _ hlen1, hdd]
      unfold shutZ pow rest
      by_cases h9 : q + kpOf D.conv keep z + 1 = D.size
      · rw [if_pos h9, if_neg (by simp), if_pos (.inr h9)]
      · rw [if_neg h9, if_pos rfl, if_neg (by simp; omega), if_neg (by simp; exact h9), if_neg (by omega)]
theorem fin_all {D : Dv} {d : Dk} (keep : List Int) (soft0 tear : Int) {z : Int} (h : Sim D d) (hO : DvOk D) (z0 : D.conv ≤ z) (z1 : z < D.conv + D.seq) : FinZ D d keep soft0 tear z := by
  by_cases hn : d.cached = []
  · exact fin_nil keep soft0 tear h hO z0 z1 hn
  · have e : d.cached = d.cached.dropLast ++ [d.cached.getLast hn] := (List.dropLast_concat_getLast hn).symm
    by_cases hz : (d.cached.getLast hn).1 = z
    · exact fin_last keep soft0 tear h hO z0 z1 e hz
    · exact fin_other keep soft0 tear h hO z0 z1 e fun x => hz x.symm
/-- how many of a zone's sectors last, from the first on -/
def leadK (safe : List Wr) (z : Int) : Nat → Nat → Nat
  | i, 0 => i
  | i, m + 1 => if (fnd safe (z, (i : Int))).isSome = true then leadK safe z (i + 1) m else i
theorem lead_eq {safe : List Wr} {z : Int} {n : Nat} (h : ∀ i, (fnd safe (z, i)).isSome = true ↔ 0 ≤ i ∧ i < (n : Int)) : ∀ m i, i ≤ n → n ≤ i + m → leadK safe z i m = n
  | 0, i, h1, h2 => by unfold leadK; omega
  | m + 1, i, h1, h2 => by
    unfold leadK
    by_cases hi : i < n
    · rw [if_pos ((h i).2 ⟨by omega, by omega⟩)]
      exact lead_eq h m (i + 1) (by omega) (by omega)
    · rw [if_neg (fun hx => by have := (h i).1 hx; omega)]
      omega
def crashK (conv size : Int) (keep : List Int) (soft0 tear : Int) (d : Dk) : Dk :=
  { L := d.L.zipIdx.map fun x => if (x.2 : Int) < conv then x.1 else shutZ (decide ((x.2 : Int) ∈ d.done)) size (leadK (safeK conv keep soft0 tear d) (x.2 : Int) 0 size.toNat),
    done := d.done, safe := safeK conv keep soft0 tear d, cached := [], armed := false, left := 0, down := false, ill := d.ill }
theorem sim_crash {D : Dv} {d : Dk} (keep : List Int) (soft0 tear : Int) (h : Sim D d) (hO : DvOk D) (hO2 : DvOk (crashD D keep soft0 tear)) : Sim (crashD D keep soft0 tear) (crashK D.conv D.size keep soft0 tear d) := by
  have hcv := hO.ok.1
  have hsz := hO.ok.2.2.2.1
  have hl1 := hO.fit.1
  have hl2 : ((crashD D keep soft0 tear).L.length : Int) = D.conv + D.seq := hO2.fit.1
  refine ⟨?_, (show [] = (crashS D keep soft0).2.1 from by unfold crashS; exact (crs_cache (conv := D.conv) keep D.cache (⟨soft0, List.replicate D.n 0, true, (0, 0, z64), D.L⟩, [], D.last)).symm), fun a ha hr => ?_, rfl, h.ill, fun _ => .inr ⟨rfl, rfl⟩, fun z z0 z1 => ?_⟩
  · show (d.L.zipIdx.map _) = (crashD D keep soft0 tear).L
    rw [h.L]
    refine List.ext_getElem? fun i => ?_
    rw [List.getElem?_map, List.getElem?_zipIdx]
    by_cases hi : i < D.L.length
    · have hi2 : i < (crashD D keep soft0 tear).L.length := by omega
      have e2 : (crashD D keep soft0 tear).L[i]? = some (zat (crashD D keep soft0 tear).L i) := by
        unfold zat
        rw [Int.toNat_natCast, List.getD_eq_getElem?_getD, List.getElem?_eq_getElem hi2]
        rfl
      have e1 : D.L[i]? = some (zat D.L i) := by
        unfold zat
        rw [Int.toNat_natCast, List.getD_eq_getElem?_getD, List.getElem?_eq_getElem hi]
        rfl
      rw [e1, e2]
      simp only [Option.map_some, Nat.zero_add]
      by_cases hc : (i : Int) < D.conv
      · rw [if_pos hc]
        have f1 : fitZ D.conv D.size i (zat D.L i) := hO.fit.2.2 i hi
        have f2 : fitZ D.conv D.size i (zat (crashD D keep soft0 tear).L i) := hO2.fit.2.2 i hi2
        unfold fitZ at f1 f2
        congr 1
        refine Prod.ext ?_ ?_ <;> omega
      · rw [if_neg hc]
        obtain ⟨n, n0, n1, hs, _, hz⟩ := fin_all keep soft0 tear h hO (z := (i : Int)) (by omega) (by omega)
        rw [hz, lead_eq (n := n.toNat) (fun j => by rw [hs]; omega) D.size.toNat 0 (by omega) (by omega)]
        rw [show ((n.toNat : Nat) : Int) = n by omega]
    · rw [List.getElem?_eq_none (by omega), List.getElem?_eq_none (by omega)]
      rfl
  · obtain ⟨a1, a2⟩ := a
    have hr : a1 < D.conv + D.seq := hr
    have ha : D.conv ≤ a1 := ha
    obtain ⟨n, n0, n1, _, hl, _⟩ := fin_all keep soft0 tear h hO (z := a1) ha hr
    exact hl a2
  · have z0 : D.conv ≤ z := z0
    have z1 : z < D.conv + D.seq := z1
    obtain ⟨n, n0, n1, hs, _, hz⟩ := fin_all keep soft0 tear h hO z0 z1
    refine ⟨n, 0, n0, hs, rfl, ?_, fun hx => ⟨rfl, ?_⟩, fun hx => ?_⟩
    · rw [hz]; show n = n + _; simp
    · have hx : z ∈ d.done := hx
      rw [hz, decide_eq_true hx]; rfl
    · have hx : z ∉ d.done := hx
      rw [hz, decide_eq_false hx]
      unfold shutZ
      show (if (false = true ∨ n = D.size) then (3 : Int) else if n = 0 then 0 else 2) = 3 ↔ n = D.size
      by_cases h9 : n = D.size
      · rw [if_pos (.inr h9)]; exact ⟨fun _ => h9, fun _ => rfl⟩
      · rw [if_neg (by simp; exact h9)]
        refine ⟨fun hx => ?_, fun hx => absurd hx h9⟩
        split at hx <;> omega
end Dev
end Go.Proofs.Ytkdhibjmfanhcaa

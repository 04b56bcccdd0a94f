/-
  DevSj
-/
import Derived.Test.YtkdhibjmfanhcaaMg28
/-
  A crash of the answer's own disk beside a crash of the device.
-/
namespace Go.Proofs.Ytkdhibjmfanhcaa
open Go.RowKit Geom Zone Dev
set_option linter.unusedVariables false

namespace Dev
/-- how many of a zone's sectors a wreck leaves -/
def kpOf (conv : Int) (keep : List Int) (z : Int) : Int := if (z - conv).toNat < keep.length ∧ 0 < keep.getD (z - conv).toNat 0 then keep.getD (z - conv).toNat 0 else 0
structure CK where
  bits : Int
  soft : Int
  seen : List Int
  safe : List Wr
/-- is it left? would it be the next one? -/
def ckLeft (conv : Int) (keep : List Int) (soft0 : Int) (s : CK) (c : Wr) : Bool :=
  if c.1 < conv then ((if s.soft % 64 = 0 then soft0 else s.bits) % 2 == 1) else decide (s.seen.getD c.1.toNat 0 < kpOf conv keep c.1)
def ckNext (conv : Int) (keep : List Int) (s : CK) (c : Wr) : Bool := if c.1 < conv then true else s.seen.getD c.1.toNat 0 == kpOf conv keep c.1
def ckStep (conv : Int) (keep : List Int) (soft0 : Int) (s : CK) (c : Wr) : CK :=
  if c.1 < conv then ⟨(if s.soft % 64 = 0 then soft0 else s.bits) / 2, s.soft + 1, s.seen, if ckLeft conv keep soft0 s c = true then s.safe ++ [c] else s.safe⟩
  else ⟨s.bits, s.soft, s.seen.set c.1.toNat (s.seen.getD c.1.toNat 0 + 1), if ckLeft conv keep soft0 s c = true then s.safe ++ [c] else s.safe⟩
def ckAll (conv : Int) (keep : List Int) (soft0 : Int) : List Wr → CK → CK
  | [], s => s
  | c :: r, s => ckAll conv keep soft0 r (ckStep conv keep soft0 s c)
def cutAt (o : Int) : Z := if o = 0 then (0, 0) else (2, o)
/-- a zone amid a crash -/
structure CI (conv : Int) (keep : List Int) (z q : Int) (Z0 : Z) (t : Nat) (σ : Cst × List Wr × (Pl → Option Value)) (s : CK) : Prop where
  seen : s.seen.getD z.toNat 0 = t
  kept : σ.1.kept.getD (z - conv).toNat 0 = min (t : Int) (kpOf conv keep z)
  safe : ∀ i, (fnd s.safe (z, i)).isSome = true ↔ 0 ≤ i ∧ i < q + min (t : Int) (kpOf conv keep z)
  last : ∀ i, σ.2.2 (z, i) = (fnd s.safe (z, i)).map pgv
  L : zat σ.1.L z = if (t : Int) ≤ kpOf conv keep z then Z0 else cutAt (q + kpOf conv keep z)
theorem kp_nn (conv : Int) (keep : List Int) (z : Int) : 0 ≤ kpOf conv keep z := by
  unfold kpOf
  split <;> omega
theorem zat_cut_ne {L : List Z} {y z o : Int} (hy : 0 ≤ y) (hz : 0 ≤ z) (h : z ≠ y) : zat (cutL L y o) z = zat L z := by
  unfold cutL
  split
  · rfl
  · split <;> exact zat_ne _ hy hz h
theorem crash_zone {conv z q : Int} {keep : List Int} {soft0 : Int} {Z0 : Z} (hc0 : 0 ≤ conv) (hz : conv ≤ z) (hq : 0 ≤ q) (h4 : Z0.1 ≠ 4) : ∀ (r : List Wr) (t m : Nat) (σ : Cst × List Wr × (Pl → Option Value)) (s : CK),
    (∀ c ∈ r, 0 ≤ c.1) → (z - conv).toNat < σ.1.kept.length → z.toNat < σ.1.L.length → z.toNat < s.seen.length → (onlyK r z).map (fun c => c.2.1) = (List.range m).map (fun (j : Nat) => q + t + (j : Int)) → q + t + m ≤ Z0.2 →
    CI conv keep z q Z0 t σ s → CI conv keep z q Z0 (t + m) (stl (crs conv keep) r σ) (ckAll conv keep soft0 r s)
  | [], t, m, σ, s, _, _, _, _, hr, _, h => by
    have : m = 0 := by
      have := congrArg List.length hr
      simpa [onlyK] using this.symm
    subst this
    exact h
  | c :: r, t, m, (σ, k, f), s, hpl, hk1, hl1, hs1, hr, hp, h => by
    have hy := hpl c List.mem_cons_self
    have hkp := kp_nn conv keep z
    by_cases hc : c.1 = z
    · -- one of this zone
      have hr' : c.2.1 :: (onlyK r z).map (fun c => c.2.1) = (List.range m).map (fun (j : Nat) => q + t + (j : Int)) := by
        rw [← hr]
        simp [onlyK, hc]
      obtain ⟨m', rfl⟩ : ∃ m', m = m' + 1 := by
        cases m with
        | zero => simp at hr'
        | succ m' => exact ⟨m', rfl⟩
      rw [List.range_succ_eq_map, List.map_cons, List.map_map] at hr'
      injection hr' with e1 e2
      have e1 : c.2.1 = q + t := by rw [e1]; simp
      have hpl1 : c.pl = (z, q + (t : Int)) := by unfold Wr.pl; rw [hc, e1]
      have hge : ¬ c.1 < conv := by omega
      have hlft : ckLeft conv keep soft0 s c = decide ((t : Int) < kpOf conv keep z) := by unfold ckLeft; rw [if_neg hge, hc, h.seen]
      have hstep : ckStep conv keep soft0 s c = ⟨s.bits, s.soft, s.seen.set z.toNat ((t : Int) + 1), if (t : Int) < kpOf conv keep z then s.safe ++ [c] else s.safe⟩ := by
        unfold ckStep
        rw [if_neg hge, hlft, hc, h.seen]
        simp
      have hkept : σ.kept.getD (z - conv).toNat 0 = min (t : Int) (kpOf conv keep z) := h.kept
      rw [show t + (m' + 1) = t + 1 + m' by omega]
      by_cases hlt : (t : Int) < kpOf conv keep z
      · have hC : ¬ (keep.length ≤ (z - conv).toNat ∨ keep.getD (z - conv).toNat 0 ≤ σ.kept.getD (z - conv).toNat 0) := by
          rw [hkept]
          unfold kpOf at hlt ⊢
          split at hlt <;> rename_i hh
          · rw [if_pos hh]; omega
          · omega
        have hl := lvs_left (soft := σ.soft) hz hC
        show CI conv keep z q Z0 (t + 1 + m') (stl (crs conv keep) (c :: r) (σ, k, f)) (ckAll conv keep soft0 r (ckStep conv keep soft0 s c))
        rw [hstep, if_pos hlt]
        unfold stl
        have hcr : crs conv keep σ c = (1, ⟨σ.soft, σ.kept.set (z - conv).toNat (σ.kept.getD (z - conv).toNat 0 + 1), true, c, σ.L⟩) := by
          unfold crs
          rw [hc, hl]
          rfl
        rw [hcr]
        refine crash_zone hc0 hz hq h4 r (t + 1) m' _ _ (fun x hx => hpl x (List.mem_cons_of_mem _ hx)) (by simpa using hk1) hl1 (by simpa using hs1) ?_ (by omega) ⟨?_, ?_, fun i => ?_, fun i => ?_, ?_⟩
        · rw [e2]
          refine List.map_congr_left fun j _ => ?_
          simp
          omega
        · simp [List.getD_eq_getElem?_getD, hs1]
        · have hk2 : (z - conv).toNat < σ.kept.length := hk1
          rw [show (⟨σ.soft, σ.kept.set (z - conv).toNat (σ.kept.getD (z - conv).toNat 0 + 1), true, c, σ.L⟩ : Cst).kept.getD (z - conv).toNat 0 = σ.kept.getD (z - conv).toNat 0 + 1 by simp [List.getD_eq_getElem?_getD, hk2], hkept]
          omega
        · show (fnd (s.safe ++ [c]) (z, i)).isSome = true ↔ _
          rw [fnd_snoc, hpl1]
          by_cases hi : i = q + t
          · subst hi
            rw [if_pos rfl]
            simp
            omega
          · rw [if_neg (by simpa using hi), h.safe]
            omega
        · show (if (1 : Int) = 1 then updM f c.pl (some (pgv c.2.2)) else f) (z, i) = (fnd (s.safe ++ [c]) (z, i)).map pgv
          rw [if_pos rfl, fnd_snoc, hpl1]
          unfold updM
          by_cases hi : (z, i) = (z, q + (t : Int))
          · rw [if_pos hi, if_pos hi]; rfl
          · rw [if_neg hi, if_neg hi]; exact h.last i
        · have := h.L
          rw [if_pos (show (t : Int) ≤ kpOf conv keep z by omega)] at this
          show zat σ.L z = if ((t + 1 : Nat) : Int) ≤ kpOf conv keep z then Z0 else cutAt (q + kpOf conv keep z)
          rw [if_pos (show ((t + 1 : Nat) : Int) ≤ kpOf conv keep z by omega)]
          exact this
      · have hC : keep.length ≤ (z - conv).toNat ∨ keep.getD (z - conv).toNat 0 ≤ σ.kept.getD (z - conv).toNat 0 := by
          rw [hkept]
          unfold kpOf at hlt ⊢
          split at hlt <;> rename_i hh
          · rw [if_pos hh]; omega
          · rw [if_neg hh]; omega
        have hl := lvs_lost (soft := σ.soft) hz hC
        show CI conv keep z q Z0 (t + 1 + m') (stl (crs conv keep) (c :: r) (σ, k, f)) (ckAll conv keep soft0 r (ckStep conv keep soft0 s c))
        rw [hstep, if_neg hlt]
        unfold stl
        have hcr : crs conv keep σ c = (2, ⟨σ.soft, σ.kept, false, c, cutL σ.L z (q + t)⟩) := by
          unfold crs
          rw [hc, hl, e1]
          rfl
        rw [hcr]
        refine crash_zone hc0 hz hq h4 r (t + 1) m' _ _ (fun x hx => hpl x (List.mem_cons_of_mem _ hx)) hk1 (by show z.toNat < (cutL σ.L z (q + t)).length; unfold cutL; split; exact hl1; split <;> simpa using hl1) (by simpa using hs1) ?_ (by omega) ⟨?_, ?_, fun i => ?_, fun i => ?_, ?_⟩
        · rw [e2]
          refine List.map_congr_left fun j _ => ?_
          simp
          omega
        · simp [List.getD_eq_getElem?_getD, hs1]
        · show σ.kept.getD (z - conv).toNat 0 = _
          rw [hkept]
          omega
        · show (fnd s.safe (z, i)).isSome = true ↔ _
          rw [h.safe]
          omega
        · exact h.last i
        · have hL := h.L
          have hl2 : z.toNat < σ.L.length := hl1
          show zat (cutL σ.L z (q + t)) z = if ((t + 1 : Nat) : Int) ≤ kpOf conv keep z then Z0 else cutAt (q + kpOf conv keep z)
          rw [if_neg (show ¬ ((t + 1 : Nat) : Int) ≤ kpOf conv keep z by omega)]
          have hL : zat σ.L z = if (t : Int) ≤ kpOf conv keep z then Z0 else cutAt (q + kpOf conv keep z) := hL
          by_cases ht : (t : Int) ≤ kpOf conv keep z
          · rw [if_pos ht] at hL
            have ht : (t : Int) = kpOf conv keep z := by omega
            unfold cutL cutAt
            rw [hL, if_neg (by omega), ← ht]
            by_cases h0 : q + (t : Int) = 0
            · rw [if_pos h0, if_pos h0]; exact zat_set _ hl2
            · rw [if_neg h0, if_neg h0]; exact zat_set _ hl2
          · rw [if_neg ht] at hL
            rw [cut_same]
            · exact hL
            · right
              rw [hL]
              unfold cutAt
              split
              · show (0 : Int) ≤ _; omega
              · show q + kpOf conv keep z ≤ _; omega
    · have hr' : (onlyK r z).map (fun c => c.2.1) = (List.range m).map (fun (j : Nat) => q + t + (j : Int)) := by
        rw [← hr]
        simp [onlyK, hc]
      have hkk : (lvs conv keep σ.soft σ.kept c.1).2.2.length = σ.kept.length ∧ (lvs conv keep σ.soft σ.kept c.1).2.2.getD (z - conv).toNat 0 = σ.kept.getD (z - conv).toNat 0 := by
        unfold lvs
        split
        · exact ⟨rfl, rfl⟩
        · split
          · exact ⟨rfl, rfl⟩
          · refine ⟨by simp, ?_⟩
            show (σ.kept.set _ _).getD _ 0 = _
            rw [List.getD_eq_getElem?_getD, List.getElem?_set_ne (by omega), ← List.getD_eq_getElem?_getD]
      have hcl : (cutL σ.L c.1 c.2.1).length = σ.L.length := by
        unfold cutL
        split
        · rfl
        · split <;> simp
      have hcz := zat_cut_ne (L := σ.L) (o := c.2.1) hy (show 0 ≤ z by omega) (fun e => hc e.symm)
      have hsd : (ckStep conv keep soft0 s c).seen.length = s.seen.length ∧ (ckStep conv keep soft0 s c).seen.getD z.toNat 0 = s.seen.getD z.toNat 0 := by
        unfold ckStep
        split
        · exact ⟨rfl, rfl⟩
        · refine ⟨by simp, ?_⟩
          show (s.seen.set _ _).getD _ 0 = _
          rw [List.getD_eq_getElem?_getD, List.getElem?_set_ne (by omega), ← List.getD_eq_getElem?_getD]
      have hsf : ∀ i, fnd (ckStep conv keep soft0 s c).safe (z, i) = fnd s.safe (z, i) := by
        intro i
        have e : ∀ b : Bool, fnd (if b = true then s.safe ++ [c] else s.safe) (z, i) = fnd s.safe (z, i) := fun b => by
          cases b with
          | false => rfl
          | true =>
            show fnd (s.safe ++ [c]) (z, i) = _
            rw [fnd_snoc, if_neg]
            intro e
            exact hc (congrArg Prod.fst e).symm
        unfold ckStep
        split <;> exact e _
      show CI conv keep z q Z0 (t + m) (stl (crs conv keep) (c :: r) (σ, k, f)) (ckAll conv keep soft0 r (ckStep conv keep soft0 s c))
      unfold stl
      obtain ⟨fate, σ', hcr, a1, a2, a3, a4⟩ : ∃ fate σ', crs conv keep σ c = (fate, σ') ∧ σ'.kept.length = σ.kept.length ∧ σ'.kept.getD (z - conv).toNat 0 = σ.kept.getD (z - conv).toNat 0 ∧ zat σ'.L z = zat σ.L z ∧ σ'.L.length = σ.L.length := by
        unfold crs
        split
        · exact ⟨_, _, rfl, hkk.1, hkk.2, rfl, rfl⟩
        · exact ⟨_, _, rfl, hkk.1, hkk.2, hcz, hcl⟩
      rw [hcr]
      refine crash_zone hc0 hz hq h4 r t m _ _ (fun x hx => hpl x (List.mem_cons_of_mem _ hx)) (by show _ < σ'.kept.length; rw [a1]; exact hk1) (by show _ < σ'.L.length; rw [a4]; exact hl1) (by rw [hsd.1]; exact hs1) hr' hp ⟨hsd.2.trans h.seen, a2.trans h.kept, fun i => by rw [hsf]; exact h.safe i, fun i => ?_, a3.trans h.L⟩
      show (if fate = 1 then updM f c.pl (some (pgv c.2.2)) else f) (z, i) = (fnd (ckStep conv keep soft0 s c).safe (z, i)).map pgv
      rw [hsf]
      split
      · unfold updM
        rw [if_neg]
        · exact h.last i
        · intro e
          exact hc (congrArg Prod.fst e).symm
      · exact h.last i

/-- the fold of a crash begins so -/
def ck0 (soft0 : Int) (safe : List Wr) : CK := ⟨soft0, 0, List.replicate 64 0, safe⟩
/-- a sequential zone behind a crash, but for the torn sector -/
theorem crash_seq2 {D : Dv} {d : Dk} (h : Sim D d) (hO : DvOk D) (keep : List Int) (soft0 : Int) {z : Int} (z0 : D.conv ≤ z) (z1 : z < D.conv + D.seq) {q : Int} {k : Nat} (q0 : 0 ≤ q) (q1 : ∀ i, (fnd d.safe (z, i)).isSome = true ↔ 0 ≤ i ∧ i < q)
    (q2 : (onlyK d.cached z).map (fun c => c.2.1) = (List.range k).map (fun (j : Nat) => q + (j : Int))) (q3 : (zat D.L z).2 = q + k) : CI D.conv keep z q (zat D.L z) k (crashS D keep soft0) (ckAll D.conv keep soft0 d.cached (ck0 soft0 d.safe)) := by
  have hcv := hO.ok.1
  have hsz := hO.ok.2.2.2.1
  have h64 := hO.ok.2.2.1
  have hlen := hO.fit.1
  have hns := hO.ns
  have hf := fit_seq hsz hO.fit (by omega) z0 z1
  have hkp := kp_nn D.conv keep z
  have hrep : ∀ n j : Nat, (List.replicate n (0 : Int)).getD j 0 = 0 := fun n j => by
    rw [List.getD_eq_getElem?_getD, List.getElem?_replicate]
    split <;> rfl
  rw [h.cache] at q2 ⊢
  have := crash_zone (soft0 := soft0) (conv := D.conv) (z := z) (q := q) (keep := keep) (Z0 := zat D.L z) (by omega) z0 q0 hf.1 D.cache 0 k (⟨soft0, List.replicate D.n 0, true, (0, 0, z64), D.L⟩, [], D.last) (ck0 soft0 d.safe)
    (fun c hc => (hO.place c hc).1) (by simp; omega) (by show z.toNat < D.L.length; omega) (by simp [ck0]; omega) (by rw [q2]; refine List.map_congr_left fun j _ => ?_; simp) (by rw [q3]; simp)
    ⟨hrep 64 z.toNat, ?_, fun i => ?_, fun i => h.last (z, i) z0 z1, ?_⟩
  · rw [Nat.zero_add] at this
    exact this
  · show (List.replicate D.n (0 : Int)).getD (z - D.conv).toNat 0 = _
    rw [List.getD_eq_getElem?_getD, List.getElem?_replicate]
    split <;> (simp; omega)
  · show (fnd d.safe (z, i)).isSome = true ↔ _
    rw [q1]
    simp
    omega
  · rw [if_pos (by simpa using hkp)]
theorem crash_seq {D : Dv} {d : Dk} (h : Sim D d) (hO : DvOk D) (keep : List Int) (soft0 : Int) {z : Int} (z0 : D.conv ≤ z) (z1 : z < D.conv + D.seq) :
    ∃ (q : Int) (k : Nat), 0 ≤ q ∧ (zat D.L z).2 = q + k ∧ (z ∈ d.done → k = 0 ∧ (zat D.L z).1 = 3) ∧ (z ∉ d.done → ((zat D.L z).1 = 3 ↔ (zat D.L z).2 = D.size)) ∧
      CI D.conv keep z q (zat D.L z) k (crashS D keep soft0) (ckAll D.conv keep soft0 d.cached (ck0 soft0 d.safe)) := by
  obtain ⟨q, k, q0, q1, q2, q3, q4, q5⟩ := h.zi z z0 z1
  exact ⟨q, k, q0, q3, q4, q5, crash_seq2 h hO keep soft0 z0 z1 q0 q1 q2 q3⟩
/-- a zone as the answer makes it behind a crash -/
def shutZ (dn : Bool) (size n : Int) : Z := (if dn = true ∨ n = size then 3 else if n = 0 then 0 else 2, n)
theorem ci_shut {conv seq size opn : Int} {L : List Z} {keep : List Int} {z q : Int} {k : Nat} {σ : Cst × List Wr × (Pl → Option Value)} {s : CK} {done : List Int} (hs : 8 ≤ size) (hc : 0 ≤ conv) (hf : Fit conv seq size opn L) (z0 : conv ≤ z) (z1 : z < conv + seq) (q0 : 0 ≤ q) (q3 : (zat L z).2 = q + k)
    (q4 : z ∈ done → k = 0 ∧ (zat L z).1 = 3) (q5 : z ∉ done → ((zat L z).1 = 3 ↔ (zat L z).2 = size)) (h : CI conv keep z q (zat L z) k σ s) :
    pow (zat σ.1.L z) = shutZ (decide (z ∈ done)) size (q + min (k : Int) (kpOf conv keep z)) := by
  have hkp := kp_nn conv keep z
  have hfz : fitZ conv size z.toNat (zat L z) := hf.2.2 z.toNat (by have := hf.1; omega)
  unfold fitZ at hfz
  have hL := h.L
  generalize zat L z = Z0 at *
  obtain ⟨st, p⟩ := Z0
  simp only at q3 q4 q5 hfz
  rw [hL]
  by_cases hk : (k : Int) ≤ kpOf conv keep z
  · rw [if_pos hk, show min (k : Int) (kpOf conv keep z) = k by omega, ← q3]
    unfold pow rest shutZ
    simp only
    by_cases hd : z ∈ done
    · have := q4 hd
      rw [if_neg (by omega), if_pos (.inl (decide_eq_true hd)), this.2]
    · have := q5 hd
      by_cases h1 : st = 1
      · rw [if_pos h1]
        by_cases h2 : p = 0
        · rw [if_pos h2, if_neg (by simp [hd]; omega), if_pos h2, h2]
        · rw [if_neg h2, if_neg (by simp [hd]; omega), if_neg h2]
      · rw [if_neg h1]
        by_cases h3 : p = size
        · rw [if_pos (.inr h3), this.2 h3]
        · rw [if_neg (by simp [hd]; omega)]
          by_cases h2 : p = 0
          · rw [if_pos h2]
            have : st = 0 := by omega
            rw [this]
          · rw [if_neg h2]
            have : st = 2 := by omega
            rw [this]
  · have hd : z ∉ done := fun hx => by have := (q4 hx).1; omega
    rw [if_neg hk, show min (k : Int) (kpOf conv keep z) = kpOf conv keep z by omega]
    unfold cutAt shutZ pow
    rw [if_neg (show ¬ (decide (z ∈ done) = true ∨ q + kpOf conv keep z = size) by simp [hd]; omega)]
    by_cases h0 : q + kpOf conv keep z = 0
    · rw [if_pos h0, if_pos h0, h0]; rfl
    · rw [if_neg h0, if_neg h0]; rfl
end Dev
end Go.Proofs.Ytkdhibjmfanhcaa

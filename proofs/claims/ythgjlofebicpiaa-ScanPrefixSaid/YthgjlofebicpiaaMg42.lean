/-
  ScG
-/
import Derived.Test.YthgjlofebicpiaaMg36
import Derived.Test.YthgjlofebicpiaaMg39
/-
  Package scan: plain mathematics of a crash: of records written in order, of which of each zone a beginning is left.
-/
namespace Go.Proofs.Ythgjlofebicpiaa
open Go.RowKit Geom Zone Dev Word Rec Scan
set_option linter.unusedVariables false

namespace Scan
/-- what stands in the cache, each place once: there it is read -/
theorem newest_of : ∀ (r : List Wr) {c : Wr}, r.reverse.Pairwise (fun a b => a.pl ≠ b.pl) → c ∈ r.reverse → ∃ i, newest r.reverse c.pl = some i ∧ r.reverse[i]? = some c
  | [], c, _, h => by simp at h
  | x :: r, c, hp, h => by
    rw [List.reverse_cons] at *
    have hp' := List.pairwise_append.1 hp
    rcases List.mem_append.1 h with h | h
    · have hne : ¬ c.pl = x.pl := hp'.2.2 c h x (by simp)
      obtain ⟨i, h1, h2⟩ := newest_of r hp'.1 h
      refine ⟨i, by rw [newest_snoc, if_neg hne]; exact h1, ?_⟩
      rw [List.getElem?_append_left (List.getElem?_eq_some_iff.1 h2).1]
      exact h2
    · obtain rfl := List.mem_singleton.1 h
      refine ⟨r.reverse.length, by rw [newest_snoc, if_pos rfl], ?_⟩
      rw [List.getElem?_append_right (Nat.le_refl _), Nat.sub_self]
      rfl
theorem page_of {D : Dv} {c : Wr} (hp : D.cache.Pairwise fun a b => a.pl ≠ b.pl) (h : c ∈ D.cache) : pageD D c.pl = c.2.2 := by
  obtain ⟨i, h1, h2⟩ := newest_of D.cache.reverse (c := c) (by rw [List.reverse_reverse]; exact hp) (by rw [List.reverse_reverse]; exact h)
  rw [List.reverse_reverse] at h1 h2
  unfold pageD
  rw [h1]
  show (D.cache.getD i (0, 0, z64)).2.2 = c.2.2
  rw [List.getD_eq_getElem?_getD, h2]
  rfl
/-- one write of a crash's order -/
theorem cut_le {L : List Z} {z o y : Int} (ho : 0 ≤ o) : (zat (cutL L z o) y).2 ≤ (zat L y).2 := by
  unfold cutL
  split
  · exact Int.le_refl _
  · rename_i h
    have hz : o < (zat L z).2 := by omega
    have key : ∀ v : Z, v.2 ≤ (zat L z).2 → (zat (L.set z.toNat v) y).2 ≤ (zat L y).2 := fun v hv => by
      unfold zat at *
      rw [List.getD_eq_getElem?_getD, List.getD_eq_getElem?_getD, List.getElem?_set]
      split
      · rename_i e
        split
        · rw [← e, ← List.getD_eq_getElem?_getD]
          exact hv
        · rw [List.getElem?_eq_none (by omega)]
          exact Int.le_refl _
      · exact Int.le_refl _
    split
    · exact key _ (by show (0 : Int) ≤ _; omega)
    · exact key _ (by show o ≤ _; omega)
theorem cut_seq {L : List Z} {z o y : Int} (h : (zat L y).1 ≠ 4) : (zat (cutL L z o) y).1 ≠ 4 := by
  unfold cutL
  split
  · exact h
  · have key : ∀ v : Z, v.1 ≠ 4 → (zat (L.set z.toNat v) y).1 ≠ 4 := fun v hv => by
      unfold zat at *
      rw [List.getD_eq_getElem?_getD, List.getElem?_set]
      split
      · split
        · exact hv
        · simp
      · rw [← List.getD_eq_getElem?_getD]; exact h
    split
    · exact key _ (by show (0 : Int) ≠ 4; decide)
    · exact key _ (by show (2 : Int) ≠ 4; decide)
theorem cut_len {L : List Z} {z o : Int} : (cutL L z o).length = L.length := by
  unfold cutL
  split
  · rfl
  · split <;> simp
/-- behind a crash: what of the cache lies below a pointer stands there -/
theorem crs_keep (conv : Int) (keep : List Int) : ∀ (l : List Wr) (s : Cst × List Wr × (Pl → Option Value)), l.Pairwise (fun a b => a.pl ≠ b.pl) → (∀ c ∈ l, 0 ≤ c.2.1 ∧ c.1.toNat < s.1.L.length ∧ (zat s.1.L c.1).1 ≠ 4) →
    (∀ y, (zat (stl (crs conv keep) l s).1.L y).2 ≤ (zat s.1.L y).2) ∧ (∀ c ∈ l, c.2.1 < (zat (stl (crs conv keep) l s).1.L c.1).2 → (stl (crs conv keep) l s).2.2 c.pl = some (pgv c.2.2)) ∧
      (∀ a, (∀ c ∈ l, c.pl ≠ a) → (stl (crs conv keep) l s).2.2 a = s.2.2 a)
  | [], s, _, _ => ⟨fun _ => Int.le_refl _, fun c hc => (by cases hc), fun _ _ => rfl⟩
  | c :: r, (σ, k, f), hp, hz => by
    have hc := List.pairwise_cons.1 hp
    have hz0 := hz c List.mem_cons_self
    by_cases hk : (lvs conv keep σ.soft σ.kept c.1).1 = true
    · have e : crs conv keep σ c = (1, ⟨(lvs conv keep σ.soft σ.kept c.1).2.1, (lvs conv keep σ.soft σ.kept c.1).2.2, true, c, σ.L⟩) := if_pos hk
      have e2 : stl (crs conv keep) (c :: r) (σ, k, f) = stl (crs conv keep) r (⟨(lvs conv keep σ.soft σ.kept c.1).2.1, (lvs conv keep σ.soft σ.kept c.1).2.2, true, c, σ.L⟩, k, updM f c.pl (some (pgv c.2.2))) := by
        show stl (crs conv keep) r ((crs conv keep σ c).2, if (crs conv keep σ c).1 = 0 then _ else k, if (crs conv keep σ c).1 = 1 then _ else f) = _
        rw [e]
        rfl
      have ih := crs_keep conv keep r (⟨(lvs conv keep σ.soft σ.kept c.1).2.1, (lvs conv keep σ.soft σ.kept c.1).2.2, true, c, σ.L⟩, k, updM f c.pl (some (pgv c.2.2))) hc.2 (fun x hx => hz x (List.mem_cons_of_mem _ hx))
      rw [e2]
      refine ⟨ih.1, fun x hx hlt => ?_, fun a ha => ?_⟩
      · rcases List.mem_cons.1 hx with rfl | hx
        · rw [ih.2.2 x.pl fun y hy e => hc.1 y hy e.symm]
          simp [updM]
        · exact ih.2.1 x hx hlt
      · rw [ih.2.2 a fun x hx => ha x (List.mem_cons_of_mem _ hx)]
        exact if_neg fun e => ha c List.mem_cons_self e.symm
    · have e : crs conv keep σ c = (2, ⟨(lvs conv keep σ.soft σ.kept c.1).2.1, (lvs conv keep σ.soft σ.kept c.1).2.2, false, c, cutL σ.L c.1 c.2.1⟩) := if_neg hk
      have e2 : stl (crs conv keep) (c :: r) (σ, k, f) = stl (crs conv keep) r (⟨(lvs conv keep σ.soft σ.kept c.1).2.1, (lvs conv keep σ.soft σ.kept c.1).2.2, false, c, cutL σ.L c.1 c.2.1⟩, k, f) := by
        show stl (crs conv keep) r ((crs conv keep σ c).2, if (crs conv keep σ c).1 = 0 then _ else k, if (crs conv keep σ c).1 = 1 then _ else f) = _
        rw [e]
        rfl
      have ih := crs_keep conv keep r (⟨(lvs conv keep σ.soft σ.kept c.1).2.1, (lvs conv keep σ.soft σ.kept c.1).2.2, false, c, cutL σ.L c.1 c.2.1⟩, k, f) hc.2 (fun x hx => by
        obtain ⟨h1, h2, h3⟩ := hz x (List.mem_cons_of_mem _ hx)
        exact ⟨h1, by show _ < (cutL σ.L c.1 c.2.1).length; rw [cut_len]; exact h2, cut_seq h3⟩)
      rw [e2]
      refine ⟨fun y => Int.le_trans (ih.1 y) (cut_le hz0.1), fun x hx hlt => ?_, fun a ha => ih.2.2 a fun x hx => ha x (List.mem_cons_of_mem _ hx)⟩
      rcases List.mem_cons.1 hx with rfl | hx
      · have h1 := ih.1 x.1
        have h1 : (zat (stl (crs conv keep) r (⟨(lvs conv keep σ.soft σ.kept x.1).2.1, (lvs conv keep σ.soft σ.kept x.1).2.2, false, x, cutL σ.L x.1 x.2.1⟩, k, f)).1.L x.1).2 ≤ (zat (cutL σ.L x.1 x.2.1) x.1).2 := h1
        rcases cut_point (L := σ.L) (z := x.1) hz0.2.1 hz0.1 with h2 | h2
        · exact absurd h2 (cut_seq hz0.2.2)
        · omega
      · exact ih.2.1 x hx hlt
/-- a device on which each place below a pointer was written once, and nothing flushed -/
structure Once (D : Dv) : Prop where
  one : D.cache.Pairwise fun a b => a.pl ≠ b.pl
  low : ∀ c ∈ D.cache, D.conv ≤ c.1 ∧ c.1 < D.conv + D.seq ∧ 0 ≤ c.2.1 ∧ c.2.1 < (zat D.L c.1).2
  all : ∀ z o : Nat, z < D.n → o < ptr D z → ∃ c ∈ D.cache, c.pl = ((z : Int), (o : Int))
theorem crash_left {D : Dv} (hO : DvOk D) (h : Once D) (keep : List Int) (soft0 : Int) {z o : Nat} (hz : z < D.n) (ho : o < ptr (crashD D keep soft0 0) z) : o < ptr D z ∧ pageD (crashD D keep soft0 0) ((z : Int), (o : Int)) = pageD D ((z : Int), (o : Int)) := by
  have hL := hO.fit.1
  have hns := hO.ns
  have hk := crs_keep D.conv keep D.cache (⟨soft0, List.replicate D.n 0, true, (0, 0, z64), D.L⟩, [], D.last) h.one fun c hc => by
    obtain ⟨h1, h2, h3, h4⟩ := h.low c hc
    have hcv := hO.ok.1
    have hlt : c.1.toNat < D.L.length := by omega
    refine ⟨h3, hlt, ?_⟩
    have hf := hO.fit.2.2 c.1.toNat hlt
    have e : zat D.L c.1 = D.L.getD c.1.toNat (0, 0) := rfl
    rw [e]
    unfold fitZ at hf
    rcases hf with ⟨h5, _, _⟩ | ⟨_, h5⟩
    · omega
    · rcases h5 with ⟨h5, _⟩ | ⟨h5, _⟩ | ⟨h5, _⟩ | ⟨h5, _⟩ <;> omega
  have eL : (crashD D keep soft0 0).L = (crashS D keep soft0).1.L.map pow := by
    unfold crashD
    simp only
    rw [if_neg (by simp)]
  have el : (crashD D keep soft0 0).last = (crashS D keep soft0).2.2 := by
    unfold crashD
    simp only
    rw [if_neg (by simp)]
  have hp : ptr (crashD D keep soft0 0) z = (zat (crashS D keep soft0).1.L (z : Int)).2.toNat := by
    unfold ptr
    rw [eL, zat_map]
  rw [hp] at ho
  have h1 := hk.1 (z : Int)
  have h1 : (zat (crashS D keep soft0).1.L (z : Int)).2 ≤ (zat D.L (z : Int)).2 := h1
  have hoD : o < ptr D z := by unfold ptr; omega
  refine ⟨hoD, ?_⟩
  obtain ⟨c, hc, hpl⟩ := h.all z o hz hoD
  have hc1 : c.1 = (z : Int) := congrArg Prod.fst hpl
  have hc2 : c.2.1 = (o : Int) := congrArg Prod.snd hpl
  have h2 := hk.2.1 c hc (by rw [hc1, hc2]; show (o : Int) < (zat (crashS D keep soft0).1.L (z : Int)).2; omega)
  have h2 : (crashS D keep soft0).2.2 c.pl = some (pgv c.2.2) := h2
  rw [← hpl, page_of h.one hc]
  unfold pageD
  rw [(crashD_cache D keep soft0 0).1, newest_nil, el, h2]
  exact unpg_some _
theorem crash_sub {D : Dv} (hO : DvOk D) (h : Once D) (keep : List Int) (soft0 ep sq : Int) : ∀ x ∈ foundD (crashD D keep soft0 0) ep sq, x ∈ foundD D ep sq := fun x hx => by
  obtain ⟨z, o, h1, h2, h3⟩ := found_mem.1 hx
  obtain ⟨h4, h5⟩ := crash_left hO h keep soft0 h1 h2
  refine found_mem.2 ⟨z, o, h1, h4, ?_⟩
  rw [← h3]
  unfold fnd
  rw [h5]
  rfl
/-- a sector is written at a zone's pointer: it is, or it is refused -/
theorem write_at {k : Nat} {D : Dv} (h : DUp k D) {z : Int} {p : List Int} (h0 : D.conv ≤ z) (h1 : z < D.conv + D.seq) :
    (writeD D (z, (zat D.L z).2, p)).2 = { D with ill := D.ill + 1 } ∨ ∃ st, (writeD D (z, (zat D.L z).2, p)).2 = { D with L := D.L.set z.toNat (st, (zat D.L z).2 + 1), cache := D.cache ++ [(z, (zat D.L z).2, p)] } := by
  have hcv := h.ok.ok.ok.1
  have hL := h.ok.ok.fit.1
  have h4 : (zat D.L z).1 ≠ 4 := by
    have hf := h.ok.ok.fit.2.2 z.toNat (by omega)
    have e : zat D.L z = D.L.getD z.toNat (0, 0) := rfl
    rw [e]
    unfold fitZ at hf
    rcases hf with ⟨h5, _, _⟩ | ⟨_, h5⟩
    · omega
    · rcases h5 with ⟨h5, _⟩ | ⟨h5, _⟩ | ⟨h5, _⟩ | ⟨h5, _⟩ <;> omega
  unfold writeD
  rw [if_neg (by simp [h.up])]
  by_cases he : (writeL D.conv D.soft D.seq D.size D.opn D.L z (zat D.L z).2).2 ≠ 0
  · left
    rw [if_pos he]
  · right
    rw [if_neg he]
    have hW : (writeL D.conv D.soft D.seq D.size D.opn D.L z (zat D.L z).2).2 = 0 := by omega
    have hE : ∃ st, (writeL D.conv D.soft D.seq D.size D.opn D.L z (zat D.L z).2).1 = D.L.set z.toNat (st, (zat D.L z).2 + 1) := by
      unfold writeL at hW ⊢
      by_cases hin : inB D.conv D.soft D.seq D.size z (zat D.L z).2 = true
      · rw [if_pos hin] at hW ⊢
        rw [turnL_eq _ _ _ _ _ _ (in_has hin)] at hW ⊢
        simp only at hW ⊢
        unfold writeZ at hW ⊢
        rw [if_neg h4] at hW ⊢
        by_cases h3 : (zat D.L z).1 = 3
        · rw [if_pos h3] at hW; simp at hW
        · rw [if_neg h3] at hW ⊢
          rw [if_neg (by simp)] at hW ⊢
          split at hW
          · rename_i h6
            rw [if_pos h6]
            exact ⟨_, rfl⟩
          · simp at hW
      · rw [if_neg hin] at hW; simp at hW
    obtain ⟨st, hE⟩ := hE
    refine ⟨st, ?_⟩
    show tick { D with L := (writeL D.conv D.soft D.seq D.size D.opn D.L z (zat D.L z).2).1, cache := D.cache ++ [(z, (zat D.L z).2, p)] } = _
    rw [hE, tick_up (show ({ D with L := D.L.set z.toNat (st, (zat D.L z).2 + 1), cache := D.cache ++ [(z, (zat D.L z).2, p)] } : Dv).armed = 0 from h.arm)]
/-- records of the epoch 7, written in order behind a number -/
def stP (s : Int) (i : Nat) (z : Int) : St := ⟨z, putR 7 (s + i + 1), false⟩
theorem i64_lit (x : Int) (h : decide (-9223372036854775808 ≤ x ∧ x ≤ 9223372036854775807) = true) : I64 x := by unfold I64; exact of_decide_eq_true h
theorem putR_64 {e s : Int} (he : I64 e) (hs : I64 s) : R64 (putR e s) := ⟨i64_lit 2 rfl, he, hs, i64_lit 1 rfl, i64_lit 0 rfl⟩
theorem stP_in {s : Int} {i : Nat} {z : Int} (h0 : 0 ≤ s) (h1 : s + i + 1 ≤ 1099511627776) (hz : 0 ≤ z ∧ z < 256) : StIn (stP s i z) := ⟨hz.1, hz.2, putR_64 (i64_lit 7 rfl) ⟨by omega, by omega⟩, putR_in _ _⟩
structure PrI (s : Int) (k : Nat) (D : Dv) : Prop where
  once : Once D
  rec_ : ∀ c ∈ D.cache, ∃ i : Nat, i < k ∧ c.2.2 = layL (putR 7 (s + i + 1))
  up : D.cache.Pairwise fun a b => (readS a.2.2).1.seq < (readS b.2.2).1.seq
theorem put_read {s : Int} {i : Nat} (h0 : 0 ≤ s) (h1 : s + i + 1 ≤ 1099511627776) : readS (layL (putR 7 (s + i + 1))) = (putR 7 (s + i + 1), 0) :=
  read_lay (putR_ok ⟨by decide, by decide⟩ ⟨by omega, h1⟩) (putR_in _ _)
theorem pri_new (conv soft seq size opn : Int) (n : Nat) (s : Int) : PrI s 0 (newD conv soft seq size opn n) :=
  ⟨⟨List.Pairwise.nil, fun c hc => (by cases hc), fun z o _ ho => by
    unfold ptr at ho
    have hz : ∀ i : Nat, ((newK n conv.toNat).getD i (0, 0)).2 = 0 := fun i => by
      unfold newK
      rw [List.getD_eq_getElem?_getD]
      rcases Nat.lt_or_ge i (List.replicate conv.toNat ((4, 0) : Z) ++ List.replicate (n - conv.toNat) (0, 0)).length with h | h
      · rw [List.getElem?_eq_getElem h, List.getElem_append]
        split <;> simp
      · rw [List.getElem?_eq_none h]; rfl
    have e : (zat (newD conv soft seq size opn n).L (z : Int)).2 = 0 := hz z
    rw [e] at ho
    simp at ho⟩, fun c hc => (by cases hc), List.Pairwise.nil⟩
theorem pri_step {s : Int} {k : Nat} {D : Dv} {z : Int} (h : PrI s k D) (hU : DUp k D) (h0 : 0 ≤ s) (h1 : s + k + 1 ≤ 1099511627776) (hz : 0 ≤ z ∧ z < 256) : PrI s (k + 1) (stepD D (stP s k z)) := by
  have hx : StIn (stP s k z) := stP_in h0 h1 hz
  obtain ⟨hz0, hz1⟩ := zone_in hU hx
  have hpg : pageOf (stP s k z) = layL (putR 7 (s + k + 1)) := by
    unfold pageOf
    rw [if_neg (by simp [stP])]
    exact layA_ok (putR_ok ⟨by decide, by decide⟩ ⟨by omega, h1⟩)
  have hL := hU.ok.ok.fit.1
  have hns := hU.ok.ok.ns
  have hcv := hU.ok.ok.ok.1
  have e : stepD D (stP s k z) = (writeD D (zoneOf D (stP s k z), (zat D.L (zoneOf D (stP s k z))).2, layL (putR 7 (s + k + 1)))).2 := by
    unfold stepD
    rw [hpg]
  rw [e]
  generalize zoneOf D (stP s k z) = y at *
  rcases write_at hU (p := layL (putR 7 (s + k + 1))) hz0 hz1 with hw | ⟨st, hw⟩
  · rw [hw]
    exact ⟨⟨h.once.one, h.once.low, h.once.all⟩, fun c hc => by obtain ⟨i, hi, hp⟩ := h.rec_ c hc; exact ⟨i, by omega, hp⟩, h.up⟩
  · rw [hw]
    obtain ⟨yn, rfl⟩ : ∃ yn : Nat, y = (yn : Int) := ⟨y.toNat, by omega⟩
    have hyn : yn < D.L.length := by omega
    have hset : ∀ q : Int, (zat (D.L.set (yn : Int).toNat (st, (zat D.L (yn : Int)).2 + 1)) q).2 = if q.toNat = yn then (zat D.L (yn : Int)).2 + 1 else (zat D.L q).2 := fun q => by
      unfold zat
      rw [List.getD_eq_getElem?_getD, List.getElem?_set, Int.toNat_natCast]
      by_cases hq : q.toNat = yn
      · rw [if_pos hq.symm, if_pos hyn, if_pos hq]; rfl
      · rw [if_neg (fun e => hq e.symm), if_neg hq, List.getD_eq_getElem?_getD]
    have hp0 : 0 ≤ (zat D.L (yn : Int)).2 := (fit_point hU.ok.ok.fit hU.ok.ok.ok.2.2.2.1 (zat_get hU.ok.ok.fit.1 (by omega) hz1)).1
    refine ⟨⟨List.pairwise_append.2 ⟨h.once.one, List.pairwise_singleton _ _, fun a ha b hb => ?_⟩, fun c hc => ?_, fun q o hq ho => ?_⟩, fun c hc => ?_, List.pairwise_append.2 ⟨h.up, List.pairwise_singleton _ _, fun a ha b hb => ?_⟩⟩
    · rw [List.mem_singleton.1 hb]
      intro e
      obtain ⟨_, _, _, h5⟩ := h.once.low a ha
      have e1 : a.1 = (yn : Int) := congrArg Prod.fst e
      have e2 : a.2.1 = (zat D.L (yn : Int)).2 := congrArg Prod.snd e
      rw [e1, e2] at h5
      omega
    · show D.conv ≤ c.1 ∧ c.1 < D.conv + D.seq ∧ 0 ≤ c.2.1 ∧ c.2.1 < (zat (D.L.set (yn : Int).toNat (st, (zat D.L (yn : Int)).2 + 1)) c.1).2
      rw [hset]
      rcases List.mem_append.1 hc with hc | hc
      · obtain ⟨a1, a2, a3, a4⟩ := h.once.low c hc
        refine ⟨a1, a2, a3, ?_⟩
        split
        · rename_i e
          have : c.1 = (yn : Int) := by omega
          rw [this] at a4
          omega
        · exact a4
      · rw [List.mem_singleton.1 hc]
        refine ⟨hz0, hz1, hp0, ?_⟩
        rw [if_pos (Int.toNat_natCast yn)]
        show (zat D.L (yn : Int)).2 < (zat D.L (yn : Int)).2 + 1
        omega
    · have ho : o < (zat (D.L.set (yn : Int).toNat (st, (zat D.L (yn : Int)).2 + 1)) (q : Int)).2.toNat := ho
      rw [hset] at ho
      by_cases hqy : q = yn
      · subst hqy
        rw [if_pos (Int.toNat_natCast q)] at ho
        by_cases hlt : o < ptr D q
        · obtain ⟨c, hc, hp⟩ := h.once.all q o hq hlt
          exact ⟨c, List.mem_append_left _ hc, hp⟩
        · refine ⟨((q : Int), (zat D.L (q : Int)).2, layL (putR 7 (s + k + 1))), List.mem_append_right _ (List.mem_singleton.2 rfl), ?_⟩
          unfold ptr at hlt
          show ((q : Int), (zat D.L (q : Int)).2) = ((q : Int), (o : Int))
          rw [show (zat D.L (q : Int)).2 = (o : Int) by omega]
      · rw [if_neg (by rw [Int.toNat_natCast]; exact hqy)] at ho
        obtain ⟨c, hc, hp⟩ := h.once.all q o hq ho
        exact ⟨c, List.mem_append_left _ hc, hp⟩
    · rcases List.mem_append.1 hc with hc | hc
      · obtain ⟨i, hi, hp⟩ := h.rec_ c hc
        exact ⟨i, by omega, hp⟩
      · rw [List.mem_singleton.1 hc]
        exact ⟨k, by omega, rfl⟩
    · rw [List.mem_singleton.1 hb]
      obtain ⟨i, hi, hp⟩ := h.rec_ a ha
      show (readS a.2.2).1.seq < (readS (layL (putR 7 (s + k + 1)))).1.seq
      rw [hp, put_read h0 (by omega), put_read h0 h1]
      show s + (i : Int) + 1 < s + (k : Int) + 1
      omega
/-- the steps, from the i-th on -/
def stsP (s : Int) : Nat → List Int → List St
  | _, [] => []
  | i, z :: r => stP s i z :: stsP s (i + 1) r
theorem stsP_length (s : Int) : ∀ (r : List Int) (i : Nat), (stsP s i r).length = r.length
  | [], _ => rfl
  | z :: r, i => by simp [stsP, stsP_length s r (i + 1)]
theorem stsP_snoc (s z : Int) : ∀ (r : List Int) (i : Nat), stsP s i (r ++ [z]) = stsP s i r ++ [stP s (i + r.length) z]
  | [], i => rfl
  | y :: r, i => by
    show stP s i y :: stsP s (i + 1) (r ++ [z]) = stP s i y :: (stsP s (i + 1) r ++ [stP s (i + (r.length + 1)) z])
    rw [stsP_snoc s z r (i + 1), show i + 1 + r.length = i + (r.length + 1) by omega]
theorem stsP_in {s : Int} (h0 : 0 ≤ s) : ∀ {r : List Int} {i : Nat}, s + (i + r.length : Nat) + 1 ≤ 1099511627776 → (∀ z ∈ r, 0 ≤ z ∧ z < 256) → ∀ x ∈ stsP s i r, StIn x
  | [], _, _, _, x, hx => by cases hx
  | z :: r, i, h1, hr, x, hx => by
    rcases List.mem_cons.1 hx with rfl | hx
    · have hz := hr z List.mem_cons_self
      have : ((i + (z :: r).length : Nat) : Int) = (i : Int) + (r.length : Int) + 1 := by simp; omega
      exact stP_in h0 (by omega) hz
    · exact stsP_in h0 (by have : ((i + 1 + r.length : Nat) : Int) = ((i + (z :: r).length : Nat) : Int) := by simp; omega
                           rw [this]; exact h1) (fun y hy => hr y (List.mem_cons_of_mem _ hy)) x hx
theorem pri_lay {s : Int} (h0 : 0 ≤ s) : ∀ {r : List Int} {i : Nat} {D : Dv}, PrI s i D → DUp i D → s + (i + r.length : Nat) + 1 ≤ 1099511627776 → (∀ z ∈ r, 0 ≤ z ∧ z < 256) → i + r.length ≤ 400 → PrI s (i + r.length) (layD D (stsP s i r))
  | [], i, D, h, _, _, _, _ => h
  | z :: r, i, D, h, hU, h1, hr, hm => by
    have hz := hr z List.mem_cons_self
    have e2 : ((i + (z :: r).length : Nat) : Int) = (i : Int) + (r.length : Int) + 1 := by simp; omega
    have hs := pri_step h hU h0 (by omega) hz
    have hx : StIn (stP s i z) := stsP_in h0 h1 hr _ List.mem_cons_self
    have hU2 : DUp (i + 1) (stepD D (stP s i z)) := write_up hU (pageOf_length hx) (pageOf_octets hx) (by simp at hm; omega)
    have := pri_lay (r := r) h0 hs hU2 (by have : ((i + 1 + r.length : Nat) : Int) = ((i + (z :: r).length : Nat) : Int) := by simp; omega
                                           rw [this]; exact h1) (fun y hy => hr y (List.mem_cons_of_mem _ hy)) (by simp at hm; omega)
    rw [show i + (z :: r).length = i + 1 + r.length by simp; omega]
    exact this
/-- of one number there is one record -/
theorem pri_inj {s : Int} {k : Nat} {D : Dv} (h : PrI s k D) (ep sq : Int) : ∀ x ∈ foundD D ep sq, ∀ y ∈ foundD D ep sq, x.r.seq = y.r.seq → x = y := fun x hx y hy e => by
  obtain ⟨z, o, h1, h2, h3⟩ := found_mem.1 hx
  obtain ⟨z', o', h1', h2', h3'⟩ := found_mem.1 hy
  obtain ⟨c, hc, hp⟩ := h.once.all z o h1 h2
  obtain ⟨c', hc', hp'⟩ := h.once.all z' o' h1' h2'
  obtain ⟨_, rfl⟩ := fnd_some.1 h3
  obtain ⟨_, rfl⟩ := fnd_some.1 h3'
  have e : (readS (pageD D ((z : Int), (o : Int)))).1.seq = (readS (pageD D ((z' : Int), (o' : Int)))).1.seq := e
  rw [← hp, ← hp', page_of h.once.one hc, page_of h.once.one hc'] at e
  have hcc : c = c' := by
    obtain ⟨i, hi, rfl⟩ := List.getElem_of_mem hc
    obtain ⟨j, hj, rfl⟩ := List.getElem_of_mem hc'
    rcases Nat.lt_trichotomy i j with hij | rfl | hij
    · have := List.pairwise_iff_getElem.1 h.up i j hi hj hij
      omega
    · rfl
    · have := List.pairwise_iff_getElem.1 h.up j i hj hi hij
      omega
  subst hcc
  rw [hp] at hp'
  injection hp' with e1 e2
  simp only
  rw [e1, e2]
end Scan
end Go.Proofs.Ythgjlofebicpiaa

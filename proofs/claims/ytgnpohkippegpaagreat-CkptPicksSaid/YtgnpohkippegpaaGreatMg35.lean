/-
  TbM CkM
-/
import Derived.Test.YtgnpohkippegpaaGreatMg34
import Derived.Test.YtgnpohkippegpaaGreatMg25
/-
  Package table, plain mathematics: which leaves make a table, and which one.
-/
namespace Go.Proofs.YtgnpohkippegpaaGreat
open Go.RowKit Leaf Tbl
set_option linter.unusedVariables false

namespace Tbl
theorem perm_range : ∀ (P : Nat) (I : List Nat), I.length = P → (∀ i, i < P → i ∈ I) → I.Perm (List.range P)
  | 0, I, hl, _ => by rw [List.eq_nil_of_length_eq_zero hl]; exact .refl _
  | P + 1, I, hl, h => by
    have hm := h P (Nat.lt_succ_self P)
    have h1 := List.perm_cons_erase hm
    have h2 : (I.erase P).length = P := by
      have := h1.length_eq
      simp at this
      omega
    have h3 := perm_range P (I.erase P) h2 (fun i hi => (List.mem_erase_of_ne (by omega)).2 (h i (by omega)))
    rw [List.range_succ]
    exact h1.trans ((List.Perm.cons P h3).trans (List.perm_append_singleton P (List.range P)).symm)
theorem nodup_le : ∀ (P : Nat) (I : List Nat), I.Nodup → (∀ i ∈ I, i < P) → I.length ≤ P
  | 0, I, _, h => by
    cases I with
    | nil => simp
    | cons x I => exact absurd (h x List.mem_cons_self) (Nat.not_lt_zero _)
  | P + 1, I, hn, h => by
    by_cases hm : P ∈ I
    · have h1 := List.perm_cons_erase hm
      have h2 := h1.nodup_iff.1 hn
      have h3 := nodup_le P (I.erase P) (List.nodup_cons.1 h2).2 (fun i hi => by
        have h4 := h i (List.mem_of_mem_erase hi)
        have h5 : i ≠ P := fun e => (List.nodup_cons.1 h2).1 (e ▸ hi)
        omega)
      have := h1.length_eq
      simp at this
      omega
    · have := nodup_le P I hn (fun i hi => by
        have h4 := h i hi
        have h5 : i ≠ P := fun e => hm (e ▸ hi)
        omega)
      omega
theorem nodup_range {P : Nat} {I : List Nat} (hl : I.length = P) (hn : I.Nodup) (h : ∀ i ∈ I, i < P) : ∀ i, i < P → i ∈ I := by
  intro i hi
  apply Classical.byContradiction
  intro hm
  have h1 := nodup_le P (i :: I) (List.nodup_cons.2 ⟨hm, hn⟩) (fun x hx => by
    rcases List.mem_cons.1 hx with rfl | hx
    · exact hi
    · exact h x hx)
  simp at h1
  omega
def ix (l : Lf) : Nat := l.index.toNat
/-- the leaves that Of takes -/
def Takes (n : Nat) (ls : List Lf) (sn : List Bool) : Prop := (∀ l ∈ ls, Fits n l ∧ sn.getD (ix l) false = false) ∧ (ls.map ix).Nodup
def layAll (ls : List Lf) (ys : List Int) : List Int := ls.foldl (fun ys l => lay ys (ix l * 10) l.places) ys
theorem fits_ix {n : Nat} {l : Lf} (h : Fits n l) : ix l < pages n := by
  obtain ⟨h1, h2, _⟩ := h
  unfold ix
  omega
theorem ofK_takes {n : Nat} : ∀ (ls : List Lf) (ys : List Int) (sn : List Bool), sn.length = pages n → Takes n ls sn → ofK n ls ys sn = some (layAll ls ys)
  | [], ys, sn, _, _ => rfl
  | l :: ls, ys, sn, hs, ⟨h1, h2⟩ => by
    obtain ⟨hf, hsn⟩ := h1 l List.mem_cons_self
    rw [ofK_yes (decide_eq_true hf) hsn]
    rw [List.map_cons, List.nodup_cons] at h2
    refine (ofK_takes ls _ _ (by rw [List.length_set]; exact hs) ⟨fun x hx => ?_, h2.2⟩)
    obtain ⟨g1, g2⟩ := h1 x (List.mem_cons_of_mem _ hx)
    refine ⟨g1, ?_⟩
    have hne : l.index.toNat ≠ ix x := fun e => h2.1 (List.mem_map.2 ⟨x, hx, e.symm⟩)
    rw [List.getD_eq_getElem?_getD, List.getElem?_set_ne hne, ← List.getD_eq_getElem?_getD]
    exact g2
theorem takes_of {n : Nat} : ∀ (ls : List Lf) (ys : List Int) (sn : List Bool) (R : List Int), sn.length = pages n → ofK n ls ys sn = some R → Takes n ls sn
  | [], ys, sn, R, _, _ => ⟨fun l h => (List.not_mem_nil h).elim, List.nodup_nil⟩
  | l :: ls, ys, sn, R, hs, h => by
    by_cases hc : fitsB n l = true ∧ sn.getD l.index.toNat false = false
    · have hf := fits_yes hc.1
      have hix := fits_ix hf
      rw [ofK_yes hc.1 hc.2] at h
      obtain ⟨h1, h2⟩ := takes_of ls _ _ R (by rw [List.length_set]; exact hs) h
      have hne : ∀ x ∈ ls, ix x ≠ ix l := fun x hx e => by
        have := (h1 x hx).2
        rw [e, List.getD_eq_getElem?_getD, show ix l = l.index.toNat from rfl, List.getElem?_set_self (by rw [hs]; exact hix)] at this
        cases this
      refine ⟨fun x hx => ?_, ?_⟩
      · rcases List.mem_cons.1 hx with rfl | hx
        · exact ⟨hf, hc.2⟩
        · obtain ⟨g1, g2⟩ := h1 x hx
          refine ⟨g1, ?_⟩
          rw [List.getD_eq_getElem?_getD, List.getElem?_set_ne (show l.index.toNat ≠ ix x from fun e => hne x hx e.symm), ← List.getD_eq_getElem?_getD] at g2
          exact g2
      · rw [List.map_cons, List.nodup_cons]
        refine ⟨fun hm => ?_, h2⟩
        obtain ⟨x, hx, e⟩ := List.mem_map.1 hm
        exact hne x hx e
    · rw [ofK, if_neg hc] at h
      cases h
theorem layAll_length {n : Nat} : ∀ (ls : List Lf) (ys : List Int), ys.length = 10 * pages n → (∀ l ∈ ls, In l ∧ Fits n l) → (layAll ls ys).length = ys.length
  | [], _, _, _ => rfl
  | l :: ls, ys, hy, h => by
    obtain ⟨hi, hf⟩ := h l List.mem_cons_self
    have hix := fits_ix hf
    have hl : (lay ys (ix l * 10) l.places).length = ys.length := lay_length (by unfold In at hi; omega)
    show (layAll ls (lay ys (ix l * 10) l.places)).length = _
    rw [layAll_length ls _ (by rw [hl]; exact hy) (fun x hx => h x (List.mem_cons_of_mem _ hx)), hl]
theorem layAll_out {n : Nat} : ∀ (ls : List Lf) (ys : List Int) (q j : Nat), ys.length = 10 * pages n → (∀ l ∈ ls, In l ∧ Fits n l) → (∀ l ∈ ls, ix l ≠ q) → j < 10 → (layAll ls ys)[q * 10 + j]? = ys[q * 10 + j]?
  | [], _, _, _, _, _, _, _ => rfl
  | l :: ls, ys, q, j, hy, h, hq, hj => by
    obtain ⟨hi, hf⟩ := h l List.mem_cons_self
    have hix := fits_ix hf
    have hb : ix l * 10 + l.places.length ≤ ys.length := by unfold In at hi; omega
    have hl : (lay ys (ix l * 10) l.places).length = ys.length := lay_length hb
    have hne := hq l List.mem_cons_self
    show (layAll ls (lay ys (ix l * 10) l.places))[_]? = _
    rw [layAll_out ls _ q j (by rw [hl]; exact hy) (fun x hx => h x (List.mem_cons_of_mem _ hx)) (fun x hx => hq x (List.mem_cons_of_mem _ hx)) hj]
    by_cases h1 : q * 10 + j < ix l * 10
    · exact lay_low hb h1
    · exact lay_high hb (by unfold In at hi; omega)
theorem layAll_in {n : Nat} : ∀ (ls : List Lf) (ys : List Int) (l : Lf) (j : Nat), ys.length = 10 * pages n → (∀ l ∈ ls, In l ∧ Fits n l) → (ls.map ix).Nodup → l ∈ ls → j < 10 → (layAll ls ys)[ix l * 10 + j]? = l.places[j]?
  | [], _, _, _, _, _, _, h, _ => (List.not_mem_nil h).elim
  | x :: ls, ys, l, j, hy, h, hn, hm, hj => by
    obtain ⟨hi, hf⟩ := h x List.mem_cons_self
    have hix := fits_ix hf
    have hb : ix x * 10 + x.places.length ≤ ys.length := by unfold In at hi; omega
    have hl : (lay ys (ix x * 10) x.places).length = ys.length := lay_length hb
    rw [List.map_cons, List.nodup_cons] at hn
    show (layAll ls (lay ys (ix x * 10) x.places))[_]? = _
    rcases List.mem_cons.1 hm with rfl | hm
    · rw [layAll_out ls _ (ix l) j (by rw [hl]; exact hy) (fun y hy => h y (List.mem_cons_of_mem _ hy)) (fun y hy e => hn.1 (List.mem_map.2 ⟨y, hy, e⟩)) hj]
      exact lay_in hb (by unfold In at hi; omega)
    · exact layAll_in ls _ l j (by rw [hl]; exact hy) (fun y hy => h y (List.mem_cons_of_mem _ hy)) hn.2 hm hj
/-- what Of makes of leaves that fit, each once -/
theorem of_takes {n : Nat} {ls : List Lf} (hl : ls.length = pages n) (h : ∀ l ∈ ls, In l ∧ Fits n l) (hn : (ls.map ix).Nodup) :
    ∃ ys, ofT n ls = some ys ∧ ys.length = 10 * pages n ∧ (∀ l ∈ ls, ∀ j, j < 10 → ys[ix l * 10 + j]? = l.places[j]?) ∧ ∀ q, q < pages n → ∃ l ∈ ls, ix l = q := by
  have hz : (List.replicate (10 * pages n) (0 : Int)).length = 10 * pages n := by simp
  have ht : Takes n ls (List.replicate (pages n) false) := ⟨fun l hm => ⟨(h l hm).2, by simp [List.getD_eq_getElem?_getD, List.getElem?_replicate]; split <;> rfl⟩, hn⟩
  refine ⟨layAll ls (List.replicate (10 * pages n) 0), ?_, ?_, ?_, ?_⟩
  · unfold ofT
    rw [if_pos hl]
    exact ofK_takes ls _ _ (by simp) ht
  · rw [layAll_length ls _ hz h, hz]
  · intro l hm j hj
    exact layAll_in ls _ l j hz h hn hm hj
  · intro q hq
    have := nodup_range (by rw [List.length_map]; exact hl) hn (fun i hi => by
      obtain ⟨l, hm, rfl⟩ := List.mem_map.1 hi
      exact fits_ix (h l hm).2) q hq
    obtain ⟨l, hm, e⟩ := List.mem_map.1 this
    exact ⟨l, hm, e⟩
theorem of_some {n : Nat} {ls : List Lf} {ys : List Int} (h : ofT n ls = some ys) : ls.length = pages n ∧ (∀ l ∈ ls, Fits n l) ∧ (ls.map ix).Nodup := by
  unfold ofT at h
  by_cases hl : ls.length = pages n
  · rw [if_pos hl] at h
    obtain ⟨h1, h2⟩ := takes_of ls _ _ ys (by simp) h
    exact ⟨hl, fun l hm => (h1 l hm).1, h2⟩
  · rw [if_neg hl] at h
    cases h
end Tbl
end Go.Proofs.YtgnpohkippegpaaGreat

/-
  Checkpoints: plain mathematics: a region's sectors; which sectors are whole; what a crash leaves of the region that was being written.
-/
namespace Go.Proofs.YtgnpohkippegpaaGreat
open Go.RowKit
set_option linter.unusedVariables false

namespace Ckp
open Leaf (Lf)
open Mast (Mst)
open Tbl

abbrev Pg := List Int
/-- a sector that was never written -/
def zp : Pg := List.replicate 64 0
/-- the leaves' sectors of a table -/
def lvs (ys : List Int) (gen : Int) (P : Nat) : List Pg := (lfsOf ys gen P).map Leaf.layL
/-- the foot of a head and of leaves -/
def footOf (m : Mst) (ls : List Pg) : Mst := ⟨true, m.gen, m.epoch, m.seq, m.pages, ((Crc.sum ls.flatten : Nat) : Int)⟩
/-- a region's sectors -/
def secs (m : Mst) (ys : List Int) (P : Nat) : List Pg := Mast.layL m :: (lvs ys m.gen P ++ [Mast.layL (footOf m (lvs ys m.gen P))])
theorem lvs_length (ys : List Int) (gen : Int) (P : Nat) : (lvs ys gen P).length = P := by simp [lvs, lfsOf]
theorem secs_length (m : Mst) (ys : List Int) (P : Nat) : (secs m ys P).length = P + 2 := by simp [secs, lvs_length]
theorem secs_head (m : Mst) (ys : List Int) (P : Nat) : (secs m ys P).getD 0 [] = Mast.layL m := rfl
theorem lvs_at {ys : List Int} {gen : Int} {P i : Nat} (h : i < P) : (lvs ys gen P)[i]? = some (Leaf.layL (lfOf ys gen i)) := by
  simp [lvs, lfsOf, h]
theorem secs_leaf {m : Mst} {ys : List Int} {P i : Nat} (h : i < P) : (secs m ys P).getD (i + 1) [] = Leaf.layL (lfOf ys m.gen i) := by
  have hl := lvs_length ys m.gen P
  rw [secs, List.getD_cons_succ, List.getD_eq_getElem?_getD, List.getElem?_append_left (by omega), lvs_at h]
  rfl
theorem secs_foot (m : Mst) (ys : List Int) (P : Nat) : (secs m ys P).getD (P + 1) [] = Mast.layL (footOf m (lvs ys m.gen P)) := by
  have hl := lvs_length ys m.gen P
  rw [secs, List.getD_cons_succ, List.getD_eq_getElem?_getD, List.getElem?_append_right (by omega), hl, Nat.sub_self]
  rfl
theorem mast_zp (m : Mst) : Mast.layL m ≠ zp := by
  intro h
  have h0 := Mast.layL_zero m
  rw [h] at h0
  have e : zp.getD 0 0 = 0 := rfl
  rcases Mast.mark_two m with h1 | h1 <;> omega
theorem leaf_zp (l : Lf) : Leaf.layL l ≠ zp := by
  intro h
  have h0 := Leaf.layL_zero l
  rw [h] at h0
  have e : zp.getD 0 0 = 0 := rfl
  omega
theorem leaf_ok {p : Pg} (h : (Leaf.readS p).2 = 0) : Leaf.okB (Leaf.readS p).1 = true ∧ Leaf.layL (Leaf.readS p).1 = p := by
  unfold Leaf.readS at *
  split at h
  · simp at h
  · rw [if_neg (by assumption)]
    split at h
    · rw [if_pos (by assumption)]; assumption
    · simp at h
/-- a leaf's sector, read -/
def lfR (gen : Int) (i : Nat) (p : Pg) : Option Lf := if (Leaf.readS p).2 = 0 ∧ (Leaf.readS p).1.gen = gen ∧ (Leaf.readS p).1.index = i then some (Leaf.readS p).1 else none
/-- the leaves' sectors from the i-th on, read -/
def lfsR (gen : Int) : Nat → List Pg → Option (List Lf)
  | _, [] => some []
  | i, p :: ps => match lfR gen i p with
    | none => none
    | some l => match lfsR gen (i + 1) ps with
      | none => none
      | some ls => some (l :: ls)
/-- is a region whole? its head and table -/
def wholeR (n P : Nat) (odd : Int) (l : List Pg) : Option (Mst × List Int) :=
  if (Mast.readS (l.getD 0 [])).2 = 0 ∧ (Mast.readS (l.getD 0 [])).1.foot = false ∧ (Mast.readS (l.getD 0 [])).1.pages = P ∧ (Mast.readS (l.getD 0 [])).1.gen % 2 = odd then
    match lfsR (Mast.readS (l.getD 0 [])).1.gen 0 ((l.drop 1).take P) with
    | none => none
    | some ls => match ofT n ls with
      | none => none
      | some ys => if l.getD (P + 1) [] = Mast.layL (footOf (Mast.readS (l.getD 0 [])).1 (lvs ys (Mast.readS (l.getD 0 [])).1.gen P)) then some ((Mast.readS (l.getD 0 [])).1, ys) else none
  else none
theorem lfR_is {gen : Int} {i : Nat} {p : Pg} {l : Lf} (h : lfR gen i p = some l) : p = Leaf.layL l ∧ l.gen = gen ∧ l.index = i ∧ Leaf.In l ∧ Leaf.Ok l := by
  unfold lfR at h
  split at h
  · rename_i hc
    injection h with h
    subst h
    obtain ⟨h1, h2⟩ := leaf_ok hc.1
    exact ⟨h2.symm, hc.2.1, hc.2.2, Leaf.read_in p, of_decide_eq_true h1⟩
  · cases h
theorem lfsR_is {gen : Int} : ∀ {ps : List Pg} {i : Nat} {ls : List Lf}, lfsR gen i ps = some ls → ps = ls.map Leaf.layL ∧ ∀ (k : Nat) (l : Lf), ls[k]? = some l → l.gen = gen ∧ l.index = ((i + k : Nat) : Int) ∧ Leaf.In l ∧ Leaf.Ok l
  | [], i, ls, h => by
    simp only [lfsR, Option.some.injEq] at h
    subst h
    exact ⟨rfl, fun k l h => by simp at h⟩
  | p :: ps, i, ls, h => by
    simp only [lfsR] at h
    cases h1 : lfR gen i p with
    | none => rw [h1] at h; cases h
    | some l =>
      rw [h1] at h
      simp only at h
      cases h2 : lfsR gen (i + 1) ps with
      | none => rw [h2] at h; cases h
      | some ls2 =>
        rw [h2] at h
        simp only [Option.some.injEq] at h
        subst h
        obtain ⟨e1, e2⟩ := lfsR_is h2
        obtain ⟨f1, f2, f3, f4, f5⟩ := lfR_is h1
        refine ⟨by rw [f1, e1]; rfl, fun k x hk => ?_⟩
        rcases k with _ | k
        · obtain rfl : l = x := by simpa using hk
          exact ⟨f2, by simpa using f3, f4, f5⟩
        · have := e2 k x (by simpa using hk)
          rw [show i + (k + 1) = i + 1 + k by omega]
          exact this
/-- leaves in order, each once, make the table they are leaves of -/
theorem ls_of {n : Nat} {gen : Int} {ls : List Lf} {ys : List Int} (hls : ∀ (k : Nat) (l : Lf), ls[k]? = some l → l.gen = gen ∧ l.index = (k : Int) ∧ Leaf.In l) (h : ofT n ls = some ys) : ls = lfsOf ys gen (pages n) ∧ ys.length = 10 * pages n := by
  obtain ⟨h1, h2, h3⟩ := of_some h
  have hin : ∀ l ∈ ls, Leaf.In l := fun l hm => by
    obtain ⟨k, hk⟩ := List.getElem?_of_mem hm
    exact (hls k l hk).2.2
  obtain ⟨ys', e1, e2, e3, _⟩ := of_takes h1 (fun l hm => ⟨hin l hm, h2 l hm⟩) h3
  rw [h] at e1
  injection e1 with e1
  subst e1
  refine ⟨?_, e2⟩
  apply List.ext_getElem?
  intro k
  by_cases hk : k < pages n
  · have hkl : k < ls.length := by omega
    obtain ⟨l, hl⟩ : ∃ l, ls[k]? = some l := ⟨ls[k], by simp [hkl]⟩
    obtain ⟨g1, g2, g3⟩ := hls k l hl
    have e : (lfsOf ys gen (pages n))[k]? = some (lfOf ys gen k) := by simp [lfsOf, hk]
    rw [hl, e]
    congr 1
    have hp : l.places = leafOf ys k := by
      apply List.ext_getElem?
      intro j
      rw [leafOf_get?]
      by_cases hj : j < 10
      · rw [if_pos hj]
        have := e3 l (List.mem_of_getElem? hl) j hj
        rw [show ix l = k by unfold ix; rw [g2]; simp] at this
        exact this.symm
      · rw [if_neg hj]
        unfold Leaf.In at g3
        exact List.getElem?_eq_none (by omega)
    cases l
    simp only at g1 g2 hp
    subst g1 g2 hp
    rfl
  · rw [List.getElem?_eq_none (by omega), List.getElem?_eq_none (by simp [lfsOf]; omega)]
/-- what reads whole is a checkpoint, sector for sector -/
theorem whole_is {n : Nat} {odd : Int} {l : List Pg} {m : Mst} {ys : List Int} (hl : l.length = pages n + 2) (h : wholeR n (pages n) odd l = some (m, ys)) :
    l = secs m ys (pages n) ∧ Mast.Ok m ∧ m.foot = false ∧ m.pages = pages n ∧ m.gen % 2 = odd ∧ ys.length = 10 * pages n ∧ ∀ i, i < pages n → Leaf.Ok (lfOf ys m.gen i) := by
  unfold wholeR at h
  split at h
  · rename_i hc
    obtain ⟨c1, c2, c3, c4⟩ := hc
    cases h1 : lfsR (Mast.readS (l.getD 0 [])).1.gen 0 ((l.drop 1).take (pages n)) with
    | none => rw [h1] at h; cases h
    | some ls =>
      rw [h1] at h
      simp only at h
      cases h2 : ofT n ls with
      | none => rw [h2] at h; cases h
      | some zs =>
        rw [h2] at h
        simp only at h
        split at h
        · rename_i hf
          simp only [Option.some.injEq, Prod.mk.injEq] at h
          obtain ⟨e1, rfl⟩ := h
          rw [e1] at c2 c3 c4 h1 hf
          obtain ⟨k1, k2⟩ := Mast.read_ok c1
          rw [e1] at k1 k2
          obtain ⟨p1, p2⟩ := lfsR_is h1
          obtain ⟨q1, q2⟩ := ls_of (gen := m.gen) (fun k x hk => by have := p2 k x hk; exact ⟨this.1, by simpa using this.2.1, this.2.2.1⟩) h2
          refine ⟨?_, of_decide_eq_true k1, c2, c3, c4, q2, fun i hi => ?_⟩
          · have hd : (l.drop 1).take (pages n) = lvs zs m.gen (pages n) := by rw [p1, q1]; rfl
            have e3 : l = l.getD 0 [] :: ((l.drop 1).take (pages n) ++ [l.getD (pages n + 1) []]) := by
              rcases l with _ | ⟨a, l⟩
              · simp at hl
              · simp only [List.getD_cons_zero, List.drop_succ_cons, List.drop_zero, List.getD_cons_succ]
                congr 1
                have hl' : l.length = pages n + 1 := by simpa using hl
                have e4 := List.take_append_drop (pages n) l
                rw [List.drop_eq_getElem_cons (by omega), List.drop_eq_nil_of_le (by omega)] at e4
                rw [List.getD_eq_getElem?_getD, List.getElem?_eq_getElem (by omega)]
                exact e4.symm
            rw [e3, ← k2, hd, hf]
            rfl
          · have e : ls[i]? = some (lfOf zs m.gen i) := by rw [q1]; simp [lfsOf, hi]
            exact (p2 i _ e).2.2.2
        · cases h
  · cases h
/-- what was written reads whole -/
theorem lfsR_lay {gen : Int} : ∀ (ls : List Lf) (i : Nat), (∀ (k : Nat) (l : Lf), ls[k]? = some l → l.gen = gen ∧ l.index = ((i + k : Nat) : Int) ∧ Leaf.In l ∧ Leaf.Ok l) → lfsR gen i (ls.map Leaf.layL) = some ls
  | [], i, _ => rfl
  | l :: ls, i, h => by
    obtain ⟨h1, h2, h3, h4⟩ := h 0 l rfl
    have e : lfR gen i (Leaf.layL l) = some l := by
      unfold lfR
      rw [Leaf.read_lay h4 h3]
      exact if_pos ⟨rfl, h1, by simpa using h2⟩
    have ih := lfsR_lay ls (i + 1) (fun k x hk => by
      have := h (k + 1) x (by simpa using hk)
      rwa [show i + (k + 1) = i + 1 + k by omega] at this)
    simp only [List.map_cons, lfsR, e, ih]
theorem whole_secs {n : Nat} {odd : Int} {m : Mst} {ys : List Int} (hk : Mast.Ok m) (hi : Mast.In m) (hf : m.foot = false) (hp : m.pages = pages n) (ho : m.gen % 2 = odd) (hy : ys.length = 10 * pages n)
    (hlf : ∀ i, i < pages n → Leaf.Ok (lfOf ys m.gen i) ∧ Fits n (lfOf ys m.gen i)) : wholeR n (pages n) odd (secs m ys (pages n)) = some (m, ys) := by
  have hin : ∀ q, q < pages n → Leaf.In (lfOf ys m.gen q) := fun q hq => leafOf_length hy hq
  have hget : ∀ (k : Nat) (l : Lf), (lfsOf ys m.gen (pages n))[k]? = some l → k < pages n ∧ l = lfOf ys m.gen k := by
    intro k l h
    have hkl : k < pages n := by
      rcases Nat.lt_or_ge k (pages n) with h' | h'
      · exact h'
      · rw [List.getElem?_eq_none (by simp [lfsOf]; omega)] at h; cases h
    have e : (lfsOf ys m.gen (pages n))[k]? = some (lfOf ys m.gen k) := by simp [lfsOf, hkl]
    rw [e] at h
    injection h with h
    exact ⟨hkl, h.symm⟩
  have h1 : lfsR m.gen 0 ((lfsOf ys m.gen (pages n)).map Leaf.layL) = some (lfsOf ys m.gen (pages n)) := lfsR_lay _ 0 (fun k l h => by
    obtain ⟨a, rfl⟩ := hget k l h
    exact ⟨rfl, by simp [lfOf], hin k a, (hlf k a).1⟩)
  have h2 : ofT n (lfsOf ys m.gen (pages n)) = some ys := by
    have hmem : ∀ l ∈ lfsOf ys m.gen (pages n), ∃ k, k < pages n ∧ l = lfOf ys m.gen k := fun l hm => by
      obtain ⟨k, hk⟩ := List.getElem?_of_mem hm
      exact ⟨k, hget k l hk⟩
    obtain ⟨ys', e1, e2, e3, _⟩ := of_takes (n := n) (ls := lfsOf ys m.gen (pages n)) (by simp [lfsOf]) (fun l hm => by
      obtain ⟨k, a, rfl⟩ := hmem l hm
      exact ⟨hin k a, (hlf k a).2⟩) (by
      have : (lfsOf ys m.gen (pages n)).map ix = List.range (pages n) := by
        unfold lfsOf
        rw [List.map_map]
        refine (List.map_congr_left (g := id) fun q _ => ?_).trans (List.map_id _)
        simp [ix, lfOf]
      rw [this]
      exact List.nodup_range)
    rw [e1]
    congr 1
    apply List.ext_getElem?
    intro k
    by_cases hk : k < 10 * pages n
    · have hq : k / 10 < pages n := by omega
      have := e3 (lfOf ys m.gen (k / 10)) (List.mem_map.2 ⟨k / 10, List.mem_range.2 hq, rfl⟩) (k % 10) (by omega)
      have e4 : ix (lfOf ys m.gen (k / 10)) = k / 10 := Int.toNat_natCast _
      rw [e4, show k / 10 * 10 + k % 10 = k by omega] at this
      rw [this]
      show (leafOf ys (k / 10))[k % 10]? = _
      rw [leafOf_get?, if_pos (by omega), show k / 10 * 10 + k % 10 = k by omega]
    · rw [List.getElem?_eq_none (by omega), List.getElem?_eq_none (by omega)]
  have hd : ((secs m ys (pages n)).drop 1).take (pages n) = (lfsOf ys m.gen (pages n)).map Leaf.layL := by
    have hl := lvs_length ys m.gen (pages n)
    rw [secs, List.drop_succ_cons, List.drop_zero, List.take_append_of_le_length (by omega), List.take_of_length_le (by omega)]
    rfl
  unfold wholeR
  rw [secs_head, Mast.read_lay hk hi, if_pos ⟨rfl, hf, hp, ho⟩, hd]
  simp only [h1, h2]
  rw [secs_foot, if_pos rfl]
theorem ys_ext {ys zs : List Int} {gen : Int} {P : Nat} (hy : ys.length = 10 * P) (hz : zs.length = 10 * P) (h : ∀ i, i < P → lfOf ys gen i = lfOf zs gen i) : ys = zs := by
  apply List.ext_getElem?
  intro k
  by_cases hk : k < 10 * P
  · have hq := h (k / 10) (by omega)
    have e : leafOf ys (k / 10) = leafOf zs (k / 10) := congrArg Lf.places hq
    have e1 := leafOf_get? ys (k / 10) (k % 10)
    have e2 := leafOf_get? zs (k / 10) (k % 10)
    rw [if_pos (by omega), show k / 10 * 10 + k % 10 = k by omega] at e1 e2
    rw [← e1, ← e2, e]
  · rw [List.getElem?_eq_none (by omega), List.getElem?_eq_none (by omega)]
/-- a region without a foot isn't whole -/
theorem whole_no_foot {n : Nat} {odd : Int} {l : List Pg} (hl : l.length = pages n + 2) (h : l.getD (pages n + 1) [] = zp) : wholeR n (pages n) odd l = none := by
  cases hw : wholeR n (pages n) odd l with
  | none => rfl
  | some r =>
    obtain ⟨m, ys⟩ := r
    have := (whole_is hl hw).1
    rw [this, secs_foot] at h
    exact absurd h (mast_zp _)
/-- where each sector ahead of the foot is the one that was written, or was never written: if it is whole, it is what was written -/
theorem whole_crash {n : Nat} {odd : Int} {l : List Pg} {m m' : Mst} {ys ys' : List Int} (hl : l.length = pages n + 2) (hk : Mast.Ok m) (hi : Mast.In m) (hi' : Mast.In m') (hy : ys.length = 10 * pages n) (hlf : ∀ i, i < pages n → Leaf.Ok (lfOf ys m.gen i))
    (h : ∀ i, i ≤ pages n → l.getD i [] = (secs m ys (pages n)).getD i [] ∨ l.getD i [] = zp) (hw : wholeR n (pages n) odd l = some (m', ys')) : m' = m ∧ ys' = ys := by
  obtain ⟨e, k1, _, _, _, hy', hlf'⟩ := whole_is hl hw
  have hm : m' = m := by
    rcases h 0 (Nat.zero_le _) with h0 | h0
    · rw [e, secs_head, secs_head] at h0
      exact Mast.lay_inj k1 hk hi' hi h0
    · rw [e, secs_head] at h0
      exact absurd h0 (mast_zp _)
  subst hm
  refine ⟨rfl, ys_ext (gen := m'.gen) hy' hy fun i hi2 => ?_⟩
  rcases h (i + 1) (by omega) with h0 | h0
  · rw [e, secs_leaf hi2, secs_leaf hi2] at h0
    exact Leaf.lay_inj (hlf' i hi2) (hlf i hi2) (leafOf_length hy' hi2) (leafOf_length hy hi2) h0
  · rw [e, secs_leaf hi2] at h0
    exact absurd h0 (leaf_zp _)
end Ckp
end Go.Proofs.YtgnpohkippegpaaGreat

/-
  DevSi
-/
import Derived.Test.YtkdhibjmfanhcaaMg27
/-
  The answer's own disk, plainly; that a device goes side by side with it (for sequential zones).
-/
namespace Go.Proofs.Ytkdhibjmfanhcaa
open Go.RowKit Geom Zone Dev
set_option linter.unusedVariables false

namespace Dev
/-- the last cell of a place -/
def fnd (l : List Wr) (a : Pl) : Option (List Int) := (l.reverse.find? fun c => c.pl == a).map fun c => c.2.2
theorem fnd_nil (a : Pl) : fnd [] a = none := rfl
theorem fnd_append (l m : List Wr) (a : Pl) : fnd (l ++ m) a = (fnd m a).or (fnd l a) := by
  unfold fnd
  rw [List.reverse_append, List.find?_append]
  cases List.find? (fun c => c.pl == a) m.reverse <;> rfl
theorem fnd_one (c : Wr) (a : Pl) : fnd [c] a = if a = c.pl then some c.2.2 else none := by
  unfold fnd
  by_cases h : a = c.pl
  · subst h; simp
  · have : (c.pl == a) = false := beq_eq_false_iff_ne.2 fun e => h e.symm
    simp [this, h]
theorem fnd_snoc (l : List Wr) (c : Wr) (a : Pl) : fnd (l ++ [c]) a = if a = c.pl then some c.2.2 else fnd l a := by
  rw [fnd_append, fnd_one]
  by_cases h : a = c.pl
  · rw [if_pos h, if_pos h]; rfl
  · rw [if_neg h, if_neg h]; rfl
theorem fnd_cons (c : Wr) (l : List Wr) (a : Pl) : fnd (c :: l) a = (fnd l a).or (if a = c.pl then some c.2.2 else none) := by
  rw [show c :: l = [c] ++ l from rfl, fnd_append, fnd_one]
/-- cells without those of a zone; cells of a zone -/
def outK (l : List Wr) (z : Int) : List Wr := l.filter fun c => c.1 != z
def onlyK (l : List Wr) (z : Int) : List Wr := l.filter fun c => c.1 == z
theorem fnd_out (z : Int) (a : Pl) : ∀ l : List Wr, fnd (outK l z) a = if a.1 = z then none else fnd l a
  | [] => by simp [outK, fnd]
  | c :: l => by
    have ih := fnd_out z a l
    by_cases hc : c.1 = z
    · have e : outK (c :: l) z = outK l z := by simp [outK, hc]
      rw [e, ih, fnd_cons]
      by_cases ha : a.1 = z
      · rw [if_pos ha, if_pos ha]
      · rw [if_neg ha, if_neg ha, if_neg (fun e => ha (by rw [e]; exact hc)), Option.or_none]
    · have e : outK (c :: l) z = c :: outK l z := by simp [outK, hc]
      rw [e, fnd_cons, ih, fnd_cons]
      by_cases ha : a.1 = z
      · rw [if_pos ha, if_pos ha, if_neg (fun e => hc (by rw [← ha, e]; rfl))]; rfl
      · rw [if_neg ha, if_neg ha]
theorem fnd_only (z : Int) (a : Pl) : ∀ l : List Wr, fnd (onlyK l z) a = if a.1 = z then fnd l a else none
  | [] => by simp [onlyK, fnd]
  | c :: l => by
    have ih := fnd_only z a l
    by_cases hc : c.1 = z
    · have e : onlyK (c :: l) z = c :: onlyK l z := by simp [onlyK, hc]
      rw [e, fnd_cons, ih, fnd_cons]
      by_cases ha : a.1 = z
      · rw [if_pos ha, if_pos ha]
      · rw [if_neg ha, if_neg ha, if_neg (fun e => ha (by rw [e]; exact hc))]; rfl
    · have e : onlyK (c :: l) z = onlyK l z := by simp [onlyK, hc]
      rw [e, ih, fnd_cons]
      by_cases ha : a.1 = z
      · rw [if_pos ha, if_pos ha, if_neg (fun e => hc (by rw [← ha, e]; rfl)), Option.or_none]
      · rw [if_neg ha, if_neg ha]
/-- what stands in a sector, by either way of looking -/
theorem newest_fnd (a : Pl) (l : List Wr) : (newest l a).map (fun i => (l.getD i (0, 0, z64)).2.2) = fnd l a := by
  obtain ⟨n, hn⟩ : ∃ n, l.length = n := ⟨_, rfl⟩
  induction n generalizing l with
  | zero =>
    obtain rfl := List.eq_nil_of_length_eq_zero hn
    rfl
  | succ n ih =>
    have hne : l ≠ [] := by rintro rfl; simp at hn
    have e : l = l.dropLast ++ [l.getLast hne] := (List.dropLast_concat_getLast hne).symm
    generalize l.getLast hne = c at e
    generalize l.dropLast = m at e
    subst e
    have hm : m.length = n := by simpa using hn
    rw [newest_snoc, fnd_snoc]
    by_cases h : a = c.pl
    · rw [if_pos h, if_pos h]
      simp
    · rw [if_neg h, if_neg h, ← ih m hm]
      cases hk : newest m a with
      | none => rfl
      | some i =>
        have := newest_lt hk
        simp [List.getElem?_append_left this]
theorem pageD_fnd (D : Dv) (a : Pl) : pageD D a = (fnd D.cache a).getD (unpg (D.last a)) := by
  rw [← newest_fnd]
  unfold pageD
  cases newest D.cache a <;> rfl
/-- all that is cached is laid: what lasts then -/
theorem stl_all (l : List Wr) (f : Pl → Option Value) (k : List Wr) (a : Pl) :
    (stl (fun (_ : Unit) c => ((1 : Int), ())) l ((), k, f)).2.1 = k ∧ (stl (fun (_ : Unit) c => ((1 : Int), ())) l ((), k, f)).2.2 a = ((fnd l a).map pgv).or (f a) := by
  obtain ⟨n, hn⟩ : ∃ n, l.length = n := ⟨_, rfl⟩
  induction n generalizing l with
  | zero =>
    obtain rfl := List.eq_nil_of_length_eq_zero hn
    exact ⟨rfl, rfl⟩
  | succ n ih =>
    have hne : l ≠ [] := by rintro rfl; simp at hn
    have e : l = l.dropLast ++ [l.getLast hne] := (List.dropLast_concat_getLast hne).symm
    generalize l.getLast hne = c at e
    generalize l.dropLast = m at e
    subst e
    have hm : m.length = n := by simpa using hn
    rw [stl_snoc, fnd_snoc]
    refine ⟨(ih m hm).1, ?_⟩
    show updM _ c.pl (some (pgv c.2.2)) a = _
    unfold updM
    by_cases h : a = c.pl
    · rw [if_pos h, if_pos h]; rfl
    · rw [if_neg h, if_neg h]; exact (ih m hm).2

/-- the answer's disk -/
structure Dk where
  L : List Z
  done : List Int
  safe : List Wr
  cached : List Wr
  armed : Bool
  left : Int
  down : Bool
  ill : Int
def tickK (d : Dk) : Dk := if d.armed = true then { d with left := d.left - 1, down := d.left - 1 == 0 } else d
def armK (d : Dk) (n : Int) : Dk := if d.down = true then d else { d with armed := decide (0 ≤ n), left := n, down := n == 0 }
section
variable (conv soft seq size opn : Int)
def writeK (d : Dk) (c : Wr) : Dk × Int :=
  if d.down = true then (d, 2)
  else if (act conv soft seq size opn d.L 0 c.1 c.2.1).2 ≠ 0 then ({ d with ill := d.ill + 1 }, (act conv soft seq size opn d.L 0 c.1 c.2.1).2)
  else (tickK { d with L := (act conv soft seq size opn d.L 0 c.1 c.2.1).1, cached := d.cached ++ [c] }, 0)
def resetK (d : Dk) (a : Pl) : Dk × Int :=
  if d.down = true then (d, 2)
  else if (act conv soft seq size opn d.L 2 a.1 a.2).2 ≠ 0 then ({ d with ill := d.ill + 1 }, (act conv soft seq size opn d.L 2 a.1 a.2).2)
  else (tickK { d with L := (act conv soft seq size opn d.L 2 a.1 a.2).1, safe := outK d.safe a.1, cached := outK d.cached a.1, done := d.done.filter fun y => y != a.1 }, 0)
def finishK (d : Dk) (a : Pl) : Dk × Int :=
  if d.down = true then (d, 2)
  else if (act conv soft seq size opn d.L 3 a.1 a.2).2 ≠ 0 then ({ d with ill := d.ill + 1 }, (act conv soft seq size opn d.L 3 a.1 a.2).2)
  else (tickK { d with L := (act conv soft seq size opn d.L 3 a.1 a.2).1, safe := d.safe ++ onlyK d.cached a.1, cached := outK d.cached a.1, done := d.done ++ [a.1] }, 0)
end
def flushK (d : Dk) : Dk × Int := if d.down = true then (d, 2) else (tickK { d with safe := d.safe ++ d.cached, cached := [] }, 0)

/-- a sequential zone: what lasts of it is a beginning, what is cached goes on from there, in order -/
def ZI (size : Int) (L : List Z) (safe cached : List Wr) (done : List Int) (z : Int) : Prop :=
  ∃ (q : Int) (k : Nat), 0 ≤ q ∧ (∀ i, (fnd safe (z, i)).isSome = true ↔ 0 ≤ i ∧ i < q) ∧ (onlyK cached z).map (fun c => c.2.1) = (List.range k).map (fun (j : Nat) => q + (j : Int)) ∧ (zat L z).2 = q + k ∧
    (z ∈ done → k = 0 ∧ (zat L z).1 = 3) ∧ (z ∉ done → ((zat L z).1 = 3 ↔ (zat L z).2 = size))
structure Sim (D : Dv) (d : Dk) : Prop where
  L : d.L = D.L
  cache : d.cached = D.cache
  last : ∀ a : Pl, D.conv ≤ a.1 → a.1 < D.conv + D.seq → D.last a = (fnd d.safe a).map pgv
  down : d.down = D.down
  ill : d.ill = D.ill
  arm : D.down = false → (d.armed = true ∧ d.left = D.armed ∧ 0 < D.armed) ∨ (d.armed = false ∧ D.armed = 0)
  zi : ∀ z, D.conv ≤ z → z < D.conv + D.seq → ZI D.size D.L d.safe d.cached d.done z
theorem sim_tick {D : Dv} {d : Dk} (h : Sim D d) (hd : D.down = false) : Sim (tick D) (tickK d) := by
  obtain ⟨h1, h2, h3, h4, h5, h6, h7⟩ := h
  unfold tick tickK
  rcases h6 hd with ⟨a1, a2, a3⟩ | ⟨a1, a2⟩
  · rw [if_pos a1, if_pos a3]
    refine ⟨h1, h2, h3, by show (d.left - 1 == 0) = (D.armed - 1 == 0); rw [a2], h5, fun hn => .inl ⟨a1, by show d.left - 1 = D.armed - 1; rw [a2], ?_⟩, h7⟩
    have hn : (D.armed - 1 == 0) = false := hn
    show 0 < D.armed - 1
    have : D.armed - 1 ≠ 0 := by simpa using hn
    omega
  · rw [if_neg (show ¬ 0 < D.armed by omega), if_neg (show ¬ d.armed = true by simp [a1])]
    exact ⟨h1, h2, h3, h4, h5, h6, h7⟩
theorem sim_arm {D : Dv} {d : Dk} (h : Sim D d) (n : Int) : Sim (armD D n) (armK d n) := by
  obtain ⟨h1, h2, h3, h4, h5, h6, h7⟩ := h
  unfold armD armK
  rw [h4]
  by_cases hd : D.down = true
  · rw [if_pos hd, if_pos hd]
    exact ⟨h1, h2, h3, h4, h5, h6, h7⟩
  · rw [if_neg hd, if_neg hd]
    refine ⟨h1, h2, h3, rfl, h5, fun hn => ?_, h7⟩
    have hn : (n == 0) = false := hn
    have hn0 : n ≠ 0 := by simpa using hn
    by_cases h0 : 0 ≤ n
    · exact .inl ⟨decide_eq_true h0, by show n = max n 0; omega, by show 0 < max n 0; omega⟩
    · exact .inr ⟨decide_eq_false h0, by show max n 0 = 0; omega⟩
theorem sim_ill {D : Dv} {d : Dk} (h : Sim D d) : Sim { D with ill := D.ill + 1 } { d with ill := d.ill + 1 } :=
  ⟨h.L, h.cache, h.last, h.down, by show d.ill + 1 = D.ill + 1; rw [h.ill], h.arm, h.zi⟩
theorem page_sim {D : Dv} {d : Dk} (h : Sim D d) {a : Pl} (ha : D.conv ≤ a.1) (hb : a.1 < D.conv + D.seq) : pageD D a = ((fnd d.cached a).or (fnd d.safe a)).getD z64 := by
  rw [pageD_fnd, h.cache, h.last a ha hb]
  cases fnd D.cache a with
  | some p => rfl
  | none =>
    cases fnd d.safe a with
    | some p => exact unpg_some p
    | none => rfl
theorem zi_flush {size : Int} {L : List Z} {safe cached : List Wr} {done : List Int} {z : Int} (h : ZI size L safe cached done z) : ZI size L (safe ++ cached) [] done z := by
  obtain ⟨q, k, h0, h1, h2, h3, h4, h5⟩ := h
  have hf : ∀ i, (fnd cached (z, i)).isSome = true ↔ q ≤ i ∧ i < q + k := by
    intro i
    have e : fnd cached (z, i) = fnd (onlyK cached z) (z, i) := by rw [fnd_only, if_pos rfl]
    have hz : ∀ c ∈ onlyK cached z, c.1 = z := fun c hc => by simpa using (List.mem_filter.1 hc).2
    rw [e]
    generalize onlyK cached z = l at h2 hz
    constructor
    · intro hs
      unfold fnd at hs
      rw [Option.isSome_map, List.find?_isSome] at hs
      obtain ⟨c, hc, hp⟩ := hs
      have hp : c.pl = (z, i) := by simpa using hp
      have hi : c.2.1 = i := congrArg Prod.snd hp
      have : c.2.1 ∈ l.map fun c => c.2.1 := List.mem_map.2 ⟨c, List.mem_reverse.1 hc, rfl⟩
      rw [h2] at this
      obtain ⟨j, hj, e⟩ := List.mem_map.1 this
      have := List.mem_range.1 hj
      omega
    · intro hi
      have : i ∈ l.map fun c => c.2.1 := by
        rw [h2]
        exact List.mem_map.2 ⟨(i - q).toNat, List.mem_range.2 (by omega), by omega⟩
      obtain ⟨c, hc, e⟩ := List.mem_map.1 this
      unfold fnd
      rw [Option.isSome_map, List.find?_isSome]
      refine ⟨c, List.mem_reverse.2 hc, ?_⟩
      have : c.pl = (z, i) := by
        unfold Wr.pl
        rw [hz c hc]
        exact congrArg (Prod.mk z) e
      simp [this]
  refine ⟨q + k, 0, by omega, fun i => ?_, rfl, by omega, fun hd => ⟨rfl, (h4 hd).2⟩, h5⟩
  rw [fnd_append, Option.isSome_or, Bool.or_eq_true, hf, h1]
  omega

theorem sim_flush {D : Dv} {d : Dk} (h : Sim D d) : Sim (flushD D).2 (flushK d).1 := by
  unfold flushD flushK
  rw [h.down]
  by_cases hd : D.down = true
  · rw [if_pos hd, if_pos hd]
    exact h
  · rw [if_neg hd, if_neg hd]
    have hd' : D.down = false := by simpa using hd
    refine sim_tick ⟨h.L, (stl_all D.cache D.last [] (0, 0)).1.symm, fun a ha hb => ?_, rfl, h.ill, h.arm, fun z z0 z1 => ?_⟩ hd'
    · show (stl (fun (_ : Unit) c => ((1 : Int), ())) D.cache ((), [], D.last)).2.2 a = _
      rw [(stl_all D.cache D.last [] a).2, fnd_append, h.last a ha hb, h.cache]
      cases fnd D.cache a <;> rfl
    · exact zi_flush (h.zi z z0 z1)
theorem zat_ne {L : List Z} {y z : Int} (v : Z) (hy : 0 ≤ y) (hz : 0 ≤ z) (h : z ≠ y) : zat (L.set y.toNat v) z = zat L z := by
  unfold zat
  rw [List.getD_eq_getElem?_getD, List.getD_eq_getElem?_getD, List.getElem?_set_ne (by omega)]
theorem zi_other {size : Int} {L L' : List Z} {safe safe' cached cached' : List Wr} {done done' : List Int} {z : Int} (h : ZI size L safe cached done z) (hL : zat L' z = zat L z) (hs : ∀ i, fnd safe' (z, i) = fnd safe (z, i))
    (hc : onlyK cached' z = onlyK cached z) (hd : z ∈ done' ↔ z ∈ done) : ZI size L' safe' cached' done' z := by
  obtain ⟨q, k, h0, h1, h2, h3, h4, h5⟩ := h
  exact ⟨q, k, h0, fun i => by rw [hs i]; exact h1 i, by rw [hc]; exact h2, by rw [hL]; exact h3, fun hm => by rw [hL]; exact h4 (hd.1 hm), fun hm => by rw [hL]; exact h5 fun hx => hm (hd.2 hx)⟩
theorem only_snoc (l : List Wr) (c : Wr) (z : Int) : onlyK (l ++ [c]) z = if c.1 = z then onlyK l z ++ [c] else onlyK l z := by
  unfold onlyK
  rw [List.filter_append]
  by_cases h : c.1 = z <;> simp [h]
theorem only_out (l : List Wr) {y z : Int} (h : z ≠ y) : onlyK (outK l y) z = onlyK l z := by
  unfold onlyK outK
  rw [List.filter_filter]
  refine List.filter_congr fun c _ => ?_
  by_cases hc : c.1 = z
  · simp [hc, h]
  · simp [hc]
theorem only_out_self (l : List Wr) (z : Int) : onlyK (outK l z) z = [] := by
  unfold onlyK outK
  rw [List.filter_filter, List.filter_eq_nil_iff]
  intro c _
  by_cases hc : c.1 = z <;> simp [hc]
theorem fit_seq {conv seq size opn : Int} {L : List Z} {z : Int} (hs : 8 ≤ size) (h : Fit conv seq size opn L) (h0 : 0 ≤ conv) (z0 : conv ≤ z) (z1 : z < conv + seq) : (zat L z).1 ≠ 4 ∧ 0 ≤ (zat L z).2 ∧ (zat L z).2 ≤ size := by
  have hl := h.1
  have hf : fitZ conv size z.toNat (zat L z) := h.2.2 z.toNat (by omega)
  unfold fitZ at hf
  have e : ((z.toNat : Nat) : Int) = z := by omega
  rw [e] at hf
  omega
theorem fit_conv {conv seq size opn : Int} {L : List Z} {z : Int} (h : Fit conv seq size opn L) (hs : 0 ≤ seq) (z0 : 0 ≤ z) (z1 : z < conv) : (zat L z).1 = 4 := by
  have hl := h.1
  have hf : fitZ conv size z.toNat (zat L z) := h.2.2 z.toNat (by omega)
  unfold fitZ at hf
  have e : ((z.toNat : Nat) : Int) = z := by omega
  rw [e] at hf
  omega
/-- settled by zones: what is cached, what lasts then -/
theorem stl_zone (y f : Int) (hf : f = 1 ∨ f = 2) (l : List Wr) (g : Pl → Option Value) (a : Pl) :
    (stl (fun (_ : Unit) c => (zstep y f c, ())) l ((), [], g)).2.1 = outK l y ∧ (stl (fun (_ : Unit) c => (zstep y f c, ())) l ((), [], g)).2.2 a = if f = 1 then ((fnd (onlyK l y) a).map pgv).or (g a) else g a := by
  obtain ⟨n, hn⟩ : ∃ n, l.length = n := ⟨_, rfl⟩
  induction n generalizing l with
  | zero =>
    obtain rfl := List.eq_nil_of_length_eq_zero hn
    refine ⟨rfl, ?_⟩
    by_cases h1 : f = 1
    · rw [if_pos h1]; rfl
    · rw [if_neg h1]; rfl
  | succ n ih =>
    have hne : l ≠ [] := by rintro rfl; simp at hn
    have e : l = l.dropLast ++ [l.getLast hne] := (List.dropLast_concat_getLast hne).symm
    generalize l.getLast hne = c at e
    generalize l.dropLast = m at e
    subst e
    have hm : m.length = n := by simpa using hn
    obtain ⟨i1, i2⟩ := ih m hm
    rw [stl_snoc, only_snoc]
    have ho : outK (m ++ [c]) y = if c.1 = y then outK m y else outK m y ++ [c] := by
      unfold outK
      rw [List.filter_append]
      by_cases h : c.1 = y <;> simp [h]
    by_cases hc : c.1 = y
    · have hz : zstep y f c = f := if_pos hc
      simp only [hz]
      rw [ho, if_pos hc, if_pos hc, if_neg (show ¬ f = 0 by omega)]
      refine ⟨i1, ?_⟩
      by_cases h1 : f = 1
      · rw [if_pos h1, if_pos h1, fnd_snoc]
        unfold updM
        by_cases h : a = c.pl
        · rw [if_pos h, if_pos h]; rfl
        · rw [if_neg h, if_neg h, i2, if_pos h1]
      · rw [if_neg h1, if_neg h1, i2, if_neg h1]
    · have hz : zstep y f c = 0 := if_neg hc
      simp only [hz, if_true]
      rw [ho, if_neg hc, if_neg hc, if_neg (show ¬ (0 : Int) = 1 by omega), i1]
      exact ⟨rfl, i2⟩

theorem sim_write {D : Dv} {d : Dk} (h : Sim D d) (hO : DvOk D) (c : Wr) : Sim (writeD D c).2 (writeK D.conv D.soft D.seq D.size D.opn d c).1 := by
  unfold writeD writeK
  rw [h.down, h.L, act_0]
  by_cases hd : D.down = true
  · rw [if_pos hd, if_pos hd]
    exact h
  rw [if_neg hd, if_neg hd]
  by_cases he : (writeL D.conv D.soft D.seq D.size D.opn D.L c.1 c.2.1).2 ≠ 0
  · rw [if_pos he, if_pos he]
    exact ⟨rfl, h.cache, h.last, rfl, by show d.ill + 1 = D.ill + 1; rw [h.ill], h.arm, h.zi⟩
  rw [if_neg he, if_neg he]
  have hd' : D.down = false := by simpa using hd
  have he : (writeL D.conv D.soft D.seq D.size D.opn D.L c.1 c.2.1).2 = 0 := by omega
  have hcv := hO.ok.1
  have hsq := hO.ok.2.1
  have hsz := hO.ok.2.2.2.1
  refine sim_tick ⟨rfl, by show d.cached ++ [c] = D.cache ++ [c]; rw [h.cache], h.last, rfl, h.ill, h.arm, fun z z0 z1 => ?_⟩ hd'
  have z0 : D.conv ≤ z := z0
  have z1 : z < D.conv + D.seq := z1
  have hI := h.zi z z0 z1
  show ZI D.size (writeL D.conv D.soft D.seq D.size D.opn D.L c.1 c.2.1).1 d.safe (d.cached ++ [c]) d.done z
  unfold writeL at he ⊢
  by_cases hin : inB D.conv D.soft D.seq D.size c.1 c.2.1 = true
  · rw [if_pos hin] at he ⊢
    have hh := in_has hin
    have hh2 := has_in hh
    rw [turnL_eq _ _ _ _ _ _ hh] at he ⊢
    by_cases hz : c.1 = z
    · obtain ⟨q, k, q0, q1, q2, q3, q4, q5⟩ := hI
      have hfs := fit_seq hsz hO.fit (by omega) z0 z1
      have hlen := hO.fit.1
      have hzl : z.toNat < D.L.length := by omega
      rw [hz] at he ⊢
      simp only at he ⊢
      unfold writeZ at he ⊢
      rw [if_neg hfs.1] at he ⊢
      by_cases h3 : (zat D.L z).1 = 3
      · rw [if_pos h3] at he; exact absurd he (show ¬ (3 : Int) = 0 by decide)
      rw [if_neg h3] at he ⊢
      by_cases h4 : c.2.1 ≠ (zat D.L z).2
      · rw [if_pos h4] at he; exact absurd he (show ¬ (4 : Int) = 0 by decide)
      rw [if_neg h4] at he ⊢
      by_cases h5 : (zat D.L z).1 = 1 ∨ decide ((cnt D.L : Int) < D.opn) = true
      rotate_left
      · rw [if_neg h5] at he; exact absurd he (by simp)
      rw [if_pos h5] at he ⊢
      have h4 : c.2.1 = (zat D.L z).2 := by omega
      have hnd : z ∉ d.done := fun hx => h3 (q4 hx).2
      refine ⟨q, k + 1, q0, q1, ?_, ?_, fun hx => absurd hx hnd, fun _ => ?_⟩
      · rw [only_snoc, if_pos hz, List.map_append, q2, List.range_succ, List.map_append]
        show _ ++ [c.2.1] = _ ++ [q + (k : Int)]
        rw [h4, q3]
      · rw [zat_set _ hzl]
        show (zat D.L z).2 + 1 = q + ((k + 1 : Nat) : Int)
        omega
      · rw [zat_set _ hzl]
        show (if (zat D.L z).2 + 1 = D.size then (3 : Int) else 1) = 3 ↔ (zat D.L z).2 + 1 = D.size
        by_cases h6 : (zat D.L z).2 + 1 = D.size
        · rw [if_pos h6]; exact ⟨fun _ => h6, fun _ => rfl⟩
        · rw [if_neg h6]; exact ⟨fun h => absurd h (by decide), fun h => absurd h h6⟩
    · refine zi_other hI (zat_ne _ hh2.1 (by omega) (fun e => hz e.symm)) (fun _ => rfl) ?_ Iff.rfl
      rw [only_snoc, if_neg hz]
  · rw [if_neg hin] at he
    exact absurd he (show ¬ (6 : Int) = 0 by decide)
theorem sim_reset {D : Dv} {d : Dk} (h : Sim D d) (hO : DvOk D) (a : Pl) : Sim (resetD D a.1).2 (resetK D.conv D.soft D.seq D.size D.opn d a).1 := by
  unfold resetD resetK
  rw [h.down, h.L, act_2]
  by_cases hd : D.down = true
  · rw [if_pos hd, if_pos hd]
    exact h
  rw [if_neg hd, if_neg hd]
  by_cases he : (turnL (fun _ z => resetZ z) D.conv D.seq D.opn D.L a.1).2 ≠ 0
  · rw [if_pos he, if_pos he]
    exact ⟨rfl, h.cache, h.last, rfl, by show d.ill + 1 = D.ill + 1; rw [h.ill], h.arm, h.zi⟩
  rw [if_neg he, if_neg he]
  have hd' : D.down = false := by simpa using hd
  have he : (turnL (fun _ z => resetZ z) D.conv D.seq D.opn D.L a.1).2 = 0 := by omega
  have hcv := hO.ok.1
  have hsq := hO.ok.2.1
  have hsz := hO.ok.2.2.2.1
  have hlen := hO.fit.1
  have hh : hasB D.conv D.seq a.1 = true := by
    cases hb : hasB D.conv D.seq a.1 with
    | true => rfl
    | false => rw [turnL_no hb] at he; exact absurd he (show ¬ (6 : Int) = 0 by decide)
  have hh2 := has_in hh
  have h4 : (zat D.L a.1).1 ≠ 4 := by
    intro h4
    rw [turnL_eq _ _ _ _ _ _ hh] at he
    simp only [resetZ] at he
    rw [if_pos h4] at he
    exact absurd he (show ¬ (3 : Int) = 0 by decide)
  have hge : D.conv ≤ a.1 := by
    rcases Int.lt_or_le a.1 D.conv with hc | hc
    · exact absurd (fit_conv hO.fit (by omega) hh2.1 hc) h4
    · exact hc
  have hL : (turnL (fun _ z => resetZ z) D.conv D.seq D.opn D.L a.1).1 = D.L.set a.1.toNat (0, 0) := by
    rw [turnL_eq _ _ _ _ _ _ hh]
    simp only [resetZ]
    rw [if_neg h4]
  refine sim_tick ⟨rfl, ?_, fun b hb hb2 => ?_, rfl, h.ill, h.arm, fun z z0 z1 => ?_⟩ hd'
  · show outK d.cached a.1 = (stl (fun (_ : Unit) c => (zstep a.1 2 c, ())) D.cache ((), [], D.last)).2.1
    rw [(stl_zone a.1 2 (.inr rfl) D.cache D.last (0, 0)).1, h.cache]
  · show dropTo (stl (fun (_ : Unit) c => (zstep a.1 2 c, ())) D.cache ((), [], D.last)).2.2 a.1 D.size.toNat b = (fnd (outK d.safe a.1) b).map pgv
    unfold dropTo
    rw [(stl_zone a.1 2 (.inr rfl) D.cache D.last b).2, fnd_out, if_neg (show ¬ (2 : Int) = 1 by omega), h.last b hb hb2]
    by_cases hz : b.1 = a.1
    · rw [if_pos hz]
      by_cases hin : b.1 = a.1 ∧ 0 ≤ b.2 ∧ b.2 < ((D.size.toNat : Nat) : Int)
      · rw [if_pos hin]; rfl
      · rw [if_neg hin]
        obtain ⟨q, k, q0, q1, q2, q3, _⟩ := h.zi a.1 hge hh2.2
        have hp := fit_seq hsz hO.fit (by omega) hge hh2.2
        have : ¬ (fnd d.safe b).isSome = true := by
          obtain ⟨b1, b2⟩ := b
          simp only at hz hin
          subst hz
          rw [q1]
          omega
        cases hf : fnd d.safe b with
        | none => rfl
        | some v => rw [hf] at this; exact absurd rfl this
    · rw [if_neg hz, if_neg (fun h => hz h.1)]
  · have z0 : D.conv ≤ z := z0
    have z1 : z < D.conv + D.seq := z1
    have hI := h.zi z z0 z1
    show ZI D.size (turnL (fun _ z => resetZ z) D.conv D.seq D.opn D.L a.1).1 (outK d.safe a.1) (outK d.cached a.1) (d.done.filter fun y => y != a.1) z
    rw [hL]
    by_cases hz : z = a.1
    · subst hz
      refine ⟨0, 0, Int.le_refl _, fun i => ?_, by rw [only_out_self]; rfl, ?_, fun hx => ?_, fun _ => ?_⟩
      · rw [fnd_out, if_pos rfl]
        exact ⟨fun h => Bool.noConfusion h, fun h => by omega⟩
      · rw [zat_set _ (by omega)]
        rfl
      · simp at hx
      · rw [zat_set _ (by omega)]
        show (0 : Int) = 3 ↔ 0 = D.size
        omega
    · refine zi_other hI (zat_ne _ hh2.1 (by omega) hz) (fun i => by rw [fnd_out, if_neg (show ¬ z = a.1 from hz)]) (only_out _ hz) ?_
      simp [hz]
theorem sim_finish {D : Dv} {d : Dk} (h : Sim D d) (hO : DvOk D) (a : Pl) : Sim (finishD D a.1).2 (finishK D.conv D.soft D.seq D.size D.opn d a).1 := by
  unfold finishD finishK
  rw [h.down, h.L, act_3]
  by_cases hd : D.down = true
  · rw [if_pos hd, if_pos hd]
    exact h
  rw [if_neg hd, if_neg hd]
  by_cases he : (turnL (fun _ z => finishZ z) D.conv D.seq D.opn D.L a.1).2 ≠ 0
  · rw [if_pos he, if_pos he]
    exact ⟨rfl, h.cache, h.last, rfl, by show d.ill + 1 = D.ill + 1; rw [h.ill], h.arm, h.zi⟩
  rw [if_neg he, if_neg he]
  have hd' : D.down = false := by simpa using hd
  have he : (turnL (fun _ z => finishZ z) D.conv D.seq D.opn D.L a.1).2 = 0 := by omega
  have hcv := hO.ok.1
  have hsq := hO.ok.2.1
  have hsz := hO.ok.2.2.2.1
  have hlen := hO.fit.1
  have hh : hasB D.conv D.seq a.1 = true := by
    cases hb : hasB D.conv D.seq a.1 with
    | true => rfl
    | false => rw [turnL_no hb] at he; exact absurd he (show ¬ (6 : Int) = 0 by decide)
  have hh2 := has_in hh
  have h4 : ¬ ((zat D.L a.1).1 = 4 ∨ (zat D.L a.1).1 = 3) := by
    intro h4
    rw [turnL_eq _ _ _ _ _ _ hh] at he
    simp only [finishZ] at he
    rw [if_pos h4] at he
    exact absurd he (show ¬ (3 : Int) = 0 by decide)
  have hge : D.conv ≤ a.1 := by
    rcases Int.lt_or_le a.1 D.conv with hc | hc
    · exact absurd (.inl (fit_conv hO.fit (by omega) hh2.1 hc)) h4
    · exact hc
  have hL : (turnL (fun _ z => finishZ z) D.conv D.seq D.opn D.L a.1).1 = D.L.set a.1.toNat (3, (zat D.L a.1).2) := by
    rw [turnL_eq _ _ _ _ _ _ hh]
    simp only [finishZ]
    rw [if_neg h4]
  refine sim_tick ⟨rfl, ?_, fun b hb hb2 => ?_, rfl, h.ill, h.arm, fun z z0 z1 => ?_⟩ hd'
  · show outK d.cached a.1 = (stl (fun (_ : Unit) c => (zstep a.1 1 c, ())) D.cache ((), [], D.last)).2.1
    rw [(stl_zone a.1 1 (.inl rfl) D.cache D.last (0, 0)).1, h.cache]
  · show (stl (fun (_ : Unit) c => (zstep a.1 1 c, ())) D.cache ((), [], D.last)).2.2 b = (fnd (d.safe ++ onlyK d.cached a.1) b).map pgv
    rw [(stl_zone a.1 1 (.inl rfl) D.cache D.last b).2, if_pos rfl, fnd_append, h.last b hb hb2, h.cache]
    cases fnd (onlyK D.cache a.1) b <;> rfl
  · have z0 : D.conv ≤ z := z0
    have z1 : z < D.conv + D.seq := z1
    have hI := h.zi z z0 z1
    show ZI D.size (turnL (fun _ z => finishZ z) D.conv D.seq D.opn D.L a.1).1 (d.safe ++ onlyK d.cached a.1) (outK d.cached a.1) (d.done ++ [a.1]) z
    rw [hL]
    by_cases hz : z = a.1
    · subst hz
      obtain ⟨q, k, q0, q1, q2, q3, q4, q5⟩ := zi_flush hI
      refine ⟨q, k, q0, fun i => ?_, by rw [only_out_self]; exact q2, ?_, fun _ => ⟨?_, ?_⟩, fun hx => ?_⟩
      · rw [fnd_append, fnd_only, if_pos rfl, ← fnd_append]
        exact q1 i
      · rw [zat_set _ (by omega)]
        exact q3
      · have := congrArg List.length q2
        simpa [onlyK] using this.symm
      · rw [zat_set _ (by omega)]
      · exact absurd (List.mem_append_right _ (List.mem_singleton.2 rfl)) hx
    · refine zi_other hI (zat_ne _ hh2.1 (by omega) hz) (fun i => by rw [fnd_append, fnd_only, if_neg (show ¬ z = a.1 from hz)]; rfl) (only_out _ hz) ?_
      simp [hz]

/-- a new disk -/
def diskK (L : List Z) : Dk := ⟨L, [], [], [], false, 0, false, 0⟩
theorem sim_new {conv soft seq size opn : Int} {n : Nat} (H : Ok conv soft seq size opn) : Sim (newD conv soft seq size opn n) (diskK (newD conv soft seq size opn n).L) := by
  have hcv := H.1
  have hsz := H.2.2.2.1
  refine ⟨rfl, rfl, fun _ _ _ => rfl, rfl, rfl, fun _ => .inr ⟨rfl, rfl⟩, fun z z0 z1 => ?_⟩
  have z0 : conv ≤ z := z0
  have z1 : z < conv + seq := z1
  have hz : zat (newD conv soft seq size opn n).L z = (0, 0) := by
    show zat (newK n conv.toNat) z = (0, 0)
    unfold zat newK
    rw [List.getD_eq_getElem?_getD, List.getElem?_append_right (by simp; omega), List.getElem?_replicate]
    split <;> rfl
  refine ⟨0, 0, Int.le_refl _, fun i => ⟨fun h => Bool.noConfusion h, fun h => by omega⟩, rfl, ?_, ?_, ?_⟩
  · rw [hz]; rfl
  · intro hx
    exact absurd hx (List.not_mem_nil)
  · intro _
    rw [hz]
    show (0 : Int) = 3 ↔ 0 = size
    omega
/-- the flush of a device that is up: what it shows stays -/
theorem flush_up2 {D : Dv} (h : D.down = false) : ∃ f u, (flushD (armD D (-1))).2 = { D with armed := 0, down := false, cache := [], last := f, use := u } ∧ ∀ a, f a = ((fnd D.cache a).map pgv).or (D.last a) := by
  refine ⟨(stl (fun (_ : Unit) c => ((1 : Int), ())) D.cache ((), [], D.last)).2.2, D.use + D.cache.length, ?_, fun a => (stl_all D.cache D.last [] a).2⟩
  have e : armD D (-1) = { D with armed := 0, down := false } := by
    unfold armD
    rw [if_neg (by simp [h])]
    rfl
  rw [e]
  unfold flushD tick sortD
  rw [if_neg (by simp), (stl_all D.cache D.last [] (0, 0)).1]
  rfl
theorem crash_none {D : Dv} (h : D.cache = []) (keep : List Int) (s t : Int) : (crashD D keep s t).L = D.L.map pow ∧ (crashD D keep s t).last = D.last ∧ (crashD D keep s t).cache = [] ∧ (crashD D keep s t).down = false := by
  unfold crashD crashS
  rw [h]
  exact ⟨rfl, rfl, rfl, rfl⟩
theorem flush_page {D : Dv} (h : D.down = false) (keep : List Int) (s t : Int) (a : Pl) : pageD (crashD (flushD (armD D (-1))).2 keep s t) a = pageD D a := by
  obtain ⟨f, u, e, hf⟩ := flush_up2 h
  rw [e]
  obtain ⟨h1, h2, h3, _⟩ := crash_none (D := { D with armed := 0, down := false, cache := [], last := f, use := u }) rfl keep s t
  rw [pageD_fnd, pageD_fnd, h2, h3, fnd_nil]
  show unpg (f a) = _
  rw [hf]
  cases fnd D.cache a with
  | some p => exact unpg_some p
  | none => rfl
end Dev
end Go.Proofs.Ytkdhibjmfanhcaa

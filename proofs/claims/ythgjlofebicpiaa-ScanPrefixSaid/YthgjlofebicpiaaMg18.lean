/-
  ZoneN DevM Maps
-/
import Derived.Test.YthgjlofebicpiaaMg17
import Derived.Test.YthgjlofebicpiaaMg01
import Derived.Test.YthgjlofebicpiaaProg
import Derived.Test.YthgjlofebicpiaaMg00
import Derived.Maps.OwnSet
import Derived.Maps.Views
import Derived.DeepKeys5
/-
  The mathematics of package zone, continued: what is asked of one of the zones. No program.
-/
namespace Go.Proofs.Ythgjlofebicpiaa.Zone
open Geom

/-- one zone is turned by T, which is told whether there is room for one more open zone -/
def turnL (T : Bool → Z → Z × Int) (conv seq opn : Int) (L : List Z) (zone : Int) : List Z × Int :=
  if hasB conv seq zone = true then (L.set zone.toNat (T (decide ((cnt L : Int) < opn)) (zat L zone)).1, (T (decide ((cnt L : Int) < opn)) (zat L zone)).2) else (L, 6)
theorem turnL_no {T : Bool → Z → Z × Int} {conv seq opn : Int} {L : List Z} {zone : Int} (h : hasB conv seq zone = false) : turnL T conv seq opn L zone = (L, 6) := if_neg (by simp [h])
theorem turnL_yes {T : Bool → Z → Z × Int} {conv seq opn : Int} {L : List Z} {k : Nat} {z z' : Z} {e : Int} (h : hasB conv seq k = true) (hz : L[k]? = some z) (ht : T (decide ((cnt L : Int) < opn)) z = (z', e)) : turnL T conv seq opn L k = (L.set k z', e) := by
  have hz2 : zat L (k : Int) = z := by simp [zat, hz]
  unfold turnL
  rw [if_pos h, hz2, ht]
  rfl
theorem has_in {conv seq zone : Int} (h : hasB conv seq zone = true) : 0 ≤ zone ∧ zone < conv + seq := of_decide_eq_true h
theorem has_no {conv seq zone : Int} (h : ¬ (0 ≤ zone ∧ zone < conv + seq)) : hasB conv seq zone = false := decide_eq_false h
theorem has_yes {conv seq zone : Int} (h : 0 ≤ zone ∧ zone < conv + seq) : hasB conv seq zone = true := decide_eq_true h
theorem in_in {conv soft seq size zone off : Int} (h : inB conv soft seq size zone off = true) : 0 ≤ off ∧ off < sectors conv soft seq size zone := of_decide_eq_true h
theorem in_has {conv soft seq size zone off : Int} (h : inB conv soft seq size zone off = true) : hasB conv seq zone = true := by
  obtain ⟨h1, h2⟩ := in_in h
  refine has_yes ?_
  unfold sectors at h2
  split at h2
  · omega
  · omega
theorem in_bd {conv soft seq size zone off : Int} (h : inB conv soft seq size zone off = true) (hs : soft ≤ 65536) (hz : size ≤ 256) : 0 ≤ off ∧ off ≤ 65536 := by
  obtain ⟨h1, h2⟩ := in_in h
  unfold sectors at h2
  split at h2
  · omega
  · split at h2 <;> omega

/-- Write; why a sector can't be read -/
def writeL (conv soft seq size opn : Int) (L : List Z) (zone off : Int) : List Z × Int :=
  if inB conv soft seq size zone off = true then turnL (fun b z => writeZ off size b z) conv seq opn L zone else (L, 6)
def readE (conv soft seq size : Int) (L : List Z) (zone off : Int) : Int :=
  if inB conv soft seq size zone off = true then (if (zat L zone).1 ≠ 4 ∧ (zat L zone).2 ≤ off then 4 else 0) else 6
theorem turnL_eq (T : Bool → Z → Z × Int) (conv seq opn : Int) (L : List Z) (zone : Int) (h : hasB conv seq zone = true) :
    turnL T conv seq opn L zone = (L.set zone.toNat (T (decide ((cnt L : Int) < opn)) (zat L zone)).1, (T (decide ((cnt L : Int) < opn)) (zat L zone)).2) := if_pos h
section
variable (conv soft seq size opn : Int) (L : List Z) (zone off : Int)
theorem act_0 : act conv soft seq size opn L 0 zone off = writeL conv soft seq size opn L zone off := by
  unfold act writeL
  by_cases h : hasB conv seq zone = true
  · by_cases h2 : inB conv soft seq size zone off = true
    · rw [if_neg (by decide), if_neg (by simp [h]), if_neg (by simp [h2]), if_neg (by decide), if_pos h2, turnL_eq _ _ _ _ _ _ h]
      rfl
    · rw [if_neg (by decide), if_neg (by simp [h]), if_pos ⟨.inl rfl, by simpa using h2⟩, if_neg h2]
  · have h2 : ¬ inB conv soft seq size zone off = true := fun h2 => h (in_has h2)
    rw [if_neg (by decide), if_pos (by simpa using h), if_neg h2]
theorem act_1 : act conv soft seq size opn L 1 zone off = (L, readE conv soft seq size L zone off) := by
  unfold act readE
  by_cases h : hasB conv seq zone = true
  · by_cases h2 : inB conv soft seq size zone off = true
    · rw [if_neg (by decide), if_neg (by simp [h]), if_neg (by simp [h2]), if_pos rfl, if_pos h2]
    · rw [if_neg (by decide), if_neg (by simp [h]), if_pos ⟨.inr rfl, by simpa using h2⟩, if_neg h2]
  · have h2 : ¬ inB conv soft seq size zone off = true := fun h2 => h (in_has h2)
    rw [if_neg (by decide), if_pos (by simpa using h), if_neg h2]
theorem act_k (k : Int) (T : Bool → Z → Z × Int) (h0 : k ≠ 0) (h1 : k ≠ 1) (h6 : k ≠ 6) (hT : ∀ b z, turn k off size b z = T b z) : act conv soft seq size opn L k zone off = turnL T conv seq opn L zone := by
  unfold act
  by_cases h : hasB conv seq zone = true
  · rw [if_neg h6, if_neg (by simp [h]), if_neg (by simp [h0, h1]), if_neg h1, turnL_eq _ _ _ _ _ _ h, hT]
  · rw [if_neg h6, if_pos (by simpa using h), turnL_no (by simpa using h)]
theorem act_2 : act conv soft seq size opn L 2 zone off = turnL (fun _ z => resetZ z) conv seq opn L zone := act_k _ _ _ _ _ _ _ _ 2 _ (by decide) (by decide) (by decide) (fun _ _ => rfl)
theorem act_3 : act conv soft seq size opn L 3 zone off = turnL (fun _ z => finishZ z) conv seq opn L zone := act_k _ _ _ _ _ _ _ _ 3 _ (by decide) (by decide) (by decide) (fun _ _ => rfl)
theorem act_4 : act conv soft seq size opn L 4 zone off = turnL (fun b z => openZ b z) conv seq opn L zone := act_k _ _ _ _ _ _ _ _ 4 _ (by decide) (by decide) (by decide) (fun _ _ => rfl)
theorem act_5 : act conv soft seq size opn L 5 zone off = turnL (fun _ z => closeZ z) conv seq opn L zone := act_k _ _ _ _ _ _ _ _ 5 _ (by decide) (by decide) (by decide) (fun _ _ => rfl)
theorem act_6 : act conv soft seq size opn L 6 zone off = (L.map pow, 0) := if_pos rfl
end

theorem turnL_length (T : Bool → Z → Z × Int) (conv seq opn : Int) (L : List Z) (zone : Int) : (turnL T conv seq opn L zone).1.length = L.length := by
  unfold turnL
  split <;> simp
theorem act_length (conv soft seq size opn : Int) (L : List Z) (k zone off : Int) : (act conv soft seq size opn L k zone off).1.length = L.length := by
  unfold act
  split
  · simp
  · split
    · rfl
    · split
      · rfl
      · split
        · rfl
        · simp
theorem act_other (conv soft seq size opn : Int) (L : List Z) (k zone off : Int) (h6 : k ≠ 6) (j : Nat) (hj : (j : Int) ≠ zone) : (act conv soft seq size opn L k zone off).1[j]? = L[j]? := by
  unfold act
  rw [if_neg h6]
  split
  · rfl
  · rename_i hh
    split
    · rfl
    · split
      · rfl
      · have := has_in (show hasB conv seq zone = true by simpa using hh)
        exact List.getElem?_set_ne (by omega)
theorem pow_pow (z : Z) : pow (pow z) = pow z := by
  unfold pow
  by_cases h : z.1 = 1
  · rw [if_pos h]
    by_cases h2 : z.2 = 0
    · rw [show rest z = (0, 0) from if_pos h2]
      rfl
    · rw [show rest z = (2, z.2) from if_neg h2]
      rfl
  · rw [if_neg h, if_neg h]
theorem pow_twice (L : List Z) : (L.map pow).map pow = L.map pow := by
  rw [List.map_map]
  exact List.map_congr_left fun z _ => pow_pow z

/-- the first k zones without power -/
def powK (L : List Z) (k : Nat) : List Z := (L.take k).map pow ++ L.drop k
theorem powK_zero (L : List Z) : powK L 0 = L := by simp [powK]
theorem powK_all {L : List Z} {k : Nat} (h : L.length = k) : powK L k = L.map pow := by subst h; simp [powK]
theorem powK_get {L : List Z} {k : Nat} {z : Z} (h : L[k]? = some z) : (powK L k)[k]? = some z := by
  have hk := (List.getElem?_eq_some_iff.1 h).1
  unfold powK
  rw [List.getElem?_append_right (by simp; omega)]
  simp only [List.length_map, List.length_take, Nat.min_eq_left (Nat.le_of_lt hk), Nat.sub_self]
  rw [List.getElem?_drop]
  simpa using h
theorem powK_set {L : List Z} {k : Nat} {z : Z} (h : L[k]? = some z) : (powK L k).set k (pow z) = powK L (k + 1) := by
  have hk := (List.getElem?_eq_some_iff.1 h).1
  have hl : ((L.take k).map pow).length = k := by simp; omega
  have hd : L.drop k = z :: L.drop (k + 1) := by
    rw [List.drop_eq_getElem_cons hk]
    congr 1
    rw [List.getElem?_eq_getElem hk] at h
    injection h
  unfold powK
  rw [List.set_append_right _ _ (by omega), hl, Nat.sub_self, hd, take_succ h, List.map_append, List.append_assoc]
  rfl
theorem powK_keep {L : List Z} {k : Nat} {z : Z} (h : L[k]? = some z) (hz : pow z = z) : powK L k = powK L (k + 1) := by
  have h2 := powK_set h
  rw [hz] at h2
  rw [← h2]
  apply List.ext_getElem?
  intro j
  by_cases hj : j = k
  · subst hj
    rw [List.getElem?_set_self (List.getElem?_eq_some_iff.1 (powK_get h)).1, powK_get h]
  · rw [List.getElem?_set_ne (Ne.symm hj)]
end Go.Proofs.Ythgjlofebicpiaa.Zone

/-
  The device, plainly: what is cached, what lasts; what each command and a crash make of it.
-/
namespace Go.Proofs.Ythgjlofebicpiaa
namespace Dev
open Zone
set_option linter.unusedVariables false

/-- a written sector: the zone, the sector in it, its bytes -/
abbrev Wr := Int × Int × List Int
abbrev Pl := Int × Int
def Wr.pl (c : Wr) : Pl := (c.1, c.2.1)
def wc (c : Wr) : List Value := .int .i64 c.1 :: .int .i64 c.2.1 :: bs c.2.2
def wcs (l : List Wr) : List Value := l.flatMap wc
def WOk (l : List Wr) : Prop := ∀ c ∈ l, c.2.2.length = 64
theorem wc_length {c : Wr} (h : c.2.2.length = 64) : (wc c).length = 66 := by simp [wc, bs_length, h]
theorem wcs_append (l m : List Wr) : wcs (l ++ m) = wcs l ++ wcs m := by simp [wcs]
theorem wcs_one (c : Wr) : wcs [c] = wc c := by simp [wcs]
theorem wcs_length : ∀ {l : List Wr}, WOk l → (wcs l).length = l.length * 66
  | [], _ => rfl
  | c :: r, h => by
    have h1 := wc_length (h c (by simp))
    have h2 := wcs_length (l := r) fun x hx => h x (by simp [hx])
    have e : wcs (c :: r) = wc c ++ wcs r := by simp [wcs]
    rw [e, List.length_append, h1, h2, List.length_cons]
    omega
theorem wcs_get : ∀ {l : List Wr} {k : Nat} {c : Wr}, WOk l → l[k]? = some c → ∀ j v, (wc c)[j]? = some v → (wcs l)[k * 66 + j]? = some v
  | [], k, c, _, h => by simp at h
  | x :: r, 0, c, h, hk => by
    intro j v hj
    simp at hk
    subst hk
    have e : wcs (x :: r) = wc x ++ wcs r := by simp [wcs]
    rw [e, Nat.zero_mul, Nat.zero_add, List.getElem?_append_left (List.getElem?_eq_some_iff.1 hj).1]
    exact hj
  | x :: r, k + 1, c, h, hk => by
    intro j v hj
    have h1 := wc_length (h x (by simp))
    have e : wcs (x :: r) = wc x ++ wcs r := by simp [wcs]
    rw [e, List.getElem?_append_right (by rw [h1]; omega), h1, show (k + 1) * 66 + j - 66 = k * 66 + j by omega]
    exact wcs_get (fun y hy => h y (by simp [hy])) (by simpa using hk) j v hj
theorem wc_cells {c : Wr} {u : Value} (h : u ∈ wc c) : u.oneCell' = true := by
  simp only [wc, List.mem_cons] at h
  rcases h with rfl | rfl | h
  · rfl
  · rfl
  · exact bs_one _ _ h
theorem wcs_cells {l : List Wr} {u : Value} (h : u ∈ wcs l) : u.oneCell' = true := by
  simp only [wcs, List.mem_flatMap] at h
  obtain ⟨c, _, h⟩ := h
  exact wc_cells h
def wv (c : Wr) : Value := .agg (wc c).toArray
def pgv (p : List Int) : Value := .agg (bs p).toArray

/-- the last place in a list at which a place was written -/
def newest (l : List Wr) (a : Pl) : Option Nat := (l.zipIdx.reverse.find? fun x => x.1.pl == a).map (·.2)
theorem newest_nil (a : Pl) : newest [] a = none := rfl
theorem newest_snoc (l : List Wr) (c : Wr) (a : Pl) : newest (l ++ [c]) a = if a = c.pl then some l.length else newest l a := by
  unfold newest
  rw [List.zipIdx_append, List.reverse_append]
  simp only [List.zipIdx_cons, List.zipIdx_nil, List.reverse_cons, List.reverse_nil, List.nil_append, List.cons_append, List.find?_cons, Nat.zero_add]
  by_cases h : a = c.pl
  · subst h
    simp
  · have : (c.pl == a) = false := by
      rw [beq_eq_false_iff_ne]
      exact fun e => h e.symm
    simp [this, h]
theorem newest_lt {l : List Wr} {a : Pl} {i : Nat} (h : newest l a = some i) : i < l.length := by
  unfold newest at h
  simp only [Option.map_eq_some_iff] at h
  obtain ⟨x, hx, rfl⟩ := h
  have := List.mem_of_find?_eq_some hx
  simp at this
  obtain ⟨_, h⟩ := List.getElem?_eq_some_iff.1 (List.mem_zipIdx_iff_getElem?.1 this)
  omega
end Dev
end Go.Proofs.Ythgjlofebicpiaa

/-
  A map whose keys are places (pairs of integers): told as a function. Nothing here looks at an element: it is read as itself.
-/
namespace Go.Proofs.Ythgjlofebicpiaa
open Go.RowKit
set_option linter.unusedVariables false

theorem at_law : Maps.Keyed Try.prog 68 := Maps.Keyed.of_law (deep_law_laid (by kernel_rfl) (m := 5) (by omega) (of_decide_eq_true (by kernel_rfl)) (by kernel_rfl) (by kernel_rfl))
abbrev W64 (a : Int) : Prop := (Lit.int .i64 a).wf = true
abbrev atv (a : Int × Int) : Value := .agg #[.int .i64 a.1, .int .i64 a.2]
theorem keyOf_two {P : Program} {k e : TypeId} {f0 f1 : Field} {q : IntKind} {m : Nat} (hu : P.underlying k = some (.struct #[f0, f1])) (hk : P.keyType k = true) (hsz : P.types.size = m + 1) (hc : P.cellsOf k = 2) (he : P.underlying e = some (.int q)) (hc2 : P.cellsOf e = 1)
    (h0 : f0.type = e) (h1 : f1.type = e) (o0 : f0.offset = 0) (o1 : f1.offset = 1) (n0 : (f0.name != "_") = true) (n1 : (f1.name != "_") = true) {a b : Int} (wa : (Lit.int q a).wf = true) (wb : (Lit.int q b).wf = true) :
    keyOf P k (.agg #[.int q a, .int q b]) = some (.string (keyBytes [.int q a, .int q b])) := by
  unfold keyOf
  simp only [hu]
  rw [if_pos (by simp [hk, Value.formed, hu, hc]), hsz]
  unfold Program.keyLits
  simp only [hu, Value.cells]
  rw [if_pos ⟨by rw [hc]; rfl, by simp [n0, n1]⟩]
  simp only [List.mapM_cons, List.mapM_nil]
  rw [h0, h1, o0, o1, hc2]
  have hi : ∀ c : Int, (Lit.int q c).wf = true → P.keyLits (m + 1) e [.int q c] = some [.int q c] := by
    intro c hc
    unfold Program.keyLits
    simp [he, hc]
  simp [hi a wa, hi b wb]

theorem keyOf_at {a : Int × Int} (h1 : W64 a.1) (h2 : W64 a.2) : ∃ l, keyOf Try.prog 68 (atv a) = some l :=
  ⟨_, keyOf_two (m := Try.prog.types.size - 1) Try.underlying68 (by kernel_rfl) (by kernel_rfl) (by kernel_rfl) Try.underlying3 (by kernel_rfl) rfl rfl rfl rfl (by decide) (by decide) h1 h2⟩

/-- an element is read as itself -/
def asIs (v : Value) : Option (DataW Value × List MemPlace) := some (.held v, [])
def unheld : DataW Value → Option Value
  | .held v => some v
  | _ => none
/-- what stands at a key -/
def lookD (D : DataW Value) (l : Lit) : Option Value := if Maps.has D l then unheld (D.atKey l .nil) else none

/-- 'MapIs w b n f': block b is a map of at most n entries; f tells what stands at each place -/
def MapIs (w : World) (b n : Nat) (f : Int × Int → Option Value) : Prop :=
  ∃ D : DataW Value, w.ownsMap Try.prog 68 asIs b n D ∧ (∀ a l, keyOf Try.prog 68 (atv a) = some l → lookD D l = f a)

def updM (f : Int × Int → Option Value) (a : Int × Int) (v : Option Value) : Int × Int → Option Value := fun x => if x = a then v else f x

section
variable {w w' : World} {b n : Nat} {f : Int × Int → Option Value}
theorem MapIs.lt (h : MapIs w b n f) : b < w.heap.size := by obtain ⟨D, h, _⟩ := h; exact h.lt
theorem MapIs.same (h : MapIs w b n f) (hb : w'.heap[b]? = w.heap[b]?) : MapIs w' b n f := by
  obtain ⟨D, ⟨es, clock, h1, h2⟩, h3⟩ := h
  exact ⟨D, ⟨es, clock, hb.trans h1, h2⟩, h3⟩
theorem MapIs.mono {m : Nat} (h : MapIs w b n f) (hm : n ≤ m) : MapIs w b m f := by
  obtain ⟨D, h, h3⟩ := h
  exact ⟨D, h.mono hm, h3⟩
theorem MapIs.is_map (h : MapIs w b n f) : ∃ es clock, w.heap[b]? = some (.map es clock) := by
  obtain ⟨D, ⟨es, clock, h1, h2⟩, h3⟩ := h
  exact ⟨es, clock, h1⟩
theorem MapIs.made (w : World) : MapIs (w.alloc (.map #[] 0)) w.heap.size 0 (fun _ => none) :=
  ⟨_, World.ownsMap_made w _ _ _, fun a l _ => by simp [lookD, Maps.has]⟩

theorem at_inj {a a' : Int × Int} {l : Lit} (h : keyOf Try.prog 68 (atv a) = some l) (h' : keyOf Try.prog 68 (atv a') = some l) : a = a' := by
  have := at_law.inj h h'
  simp [atv] at this
  exact Prod.ext this.1 this.2

set_option maxRecDepth 100000 in
theorem MapIs.look_ok (h : MapIs w b n f) {t e : TypeId} (ht : Try.prog.underlying t = some (.map 68 e)) {z : Value} (hz : (zeroValue e).run Try.prog w = .ok z w) {a : Int × Int} (h1 : W64 a.1) (h2 : W64 a.2) :
    (Instr.lookup t (.map (some b)) (atv a) true).run Try.prog w = .ok (.tuple #[(f a).getD z, .bool (f a).isSome]) w := by
  obtain ⟨D, hown, hf⟩ := h
  obtain ⟨l, hl⟩ := keyOf_at h1 h2
  obtain ⟨v, ps, hrun, hv⟩ := hown.look_ok at_law ht hz (zd := .held z) (zp := []) rfl hl
  have hfa := hf a l hl
  rw [hrun]
  unfold asIs at hv
  have hv1 : DataW.held v = D.atKey l (.held z) := congrArg Prod.fst (Option.some.inj hv)
  unfold lookD at hfa
  cases hh : Maps.has D l with
  | false =>
    rw [Maps.atKey_of_not_has hh] at hv1
    rw [hh] at hfa
    injection hv1 with hv1
    subst hv1
    simp at hfa
    simp [← hfa]
  | true =>
    rw [hh] at hfa
    simp at hfa
    have hsame : D.atKey l .nil = D.atKey l (.held z) := by
      obtain ⟨es, clock, hb, F, _, rfl⟩ := hown
      rcases Maps.fit_look true at_law ht hz hb F hl with ⟨_, _, hat⟩ | ⟨e0, y, _, _, _, _, hat, _⟩
      · exact absurd (Maps.has_false_of_atKey hat) (by rw [hh]; simp)
      · rw [hat, hat]
    rw [hsame, ← hv1] at hfa
    simp [unheld] at hfa
    simp [← hfa]

set_option maxRecDepth 100000 in
theorem MapIs.look (h : MapIs w b n f) {t e : TypeId} (ht : Try.prog.underlying t = some (.map 68 e)) {z : Value} (hz : (zeroValue e).run Try.prog w = .ok z w) {a : Int × Int} (h1 : W64 a.1) (h2 : W64 a.2) :
    (Instr.lookup t (.map (some b)) (atv a) false).run Try.prog w = .ok ((f a).getD z) w := by
  obtain ⟨D, hown, hf⟩ := h
  obtain ⟨l, hl⟩ := keyOf_at h1 h2
  obtain ⟨v, ps, hrun, hv⟩ := hown.lookup at_law ht hz (zd := .held z) (zp := []) rfl hl
  have hfa := hf a l hl
  rw [hrun]
  unfold asIs at hv
  have hv1 : DataW.held v = D.atKey l (.held z) := congrArg Prod.fst (Option.some.inj hv)
  unfold lookD at hfa
  cases hh : Maps.has D l with
  | false =>
    rw [Maps.atKey_of_not_has hh] at hv1
    rw [hh] at hfa
    injection hv1 with hv1
    subst hv1
    simp at hfa
    simp [← hfa]
  | true =>
    rw [hh] at hfa
    simp at hfa
    have hsame : D.atKey l .nil = D.atKey l (.held z) := by
      obtain ⟨es, clock, hb, F, _, rfl⟩ := hown
      rcases Maps.fit_look true at_law ht hz hb F hl with ⟨_, _, hat⟩ | ⟨e0, y, _, _, _, _, hat, _⟩
      · exact absurd (Maps.has_false_of_atKey hat) (by rw [hh]; simp)
      · rw [hat, hat]
    rw [hsame, ← hv1] at hfa
    simp [unheld] at hfa
    simp [← hfa]

set_option maxRecDepth 100000 in
theorem MapIs.store (h : MapIs w b n f) {t e : TypeId} (ht : Try.prog.underlying t = some (.map 68 e)) (hn : n < maxLen) {a : Int × Int} (h1 : W64 a.1) (h2 : W64 a.2) (v : Value) :
    ∃ w', (Instr.mapUpdate t (.map (some b)) (atv a) v).run Try.prog w = .ok () w' ∧ MapIs w' b (n + 1) (updM f a (some v)) ∧ w.mapTurned w' b := by
  obtain ⟨D, hown, hf⟩ := h
  obtain ⟨l, hl⟩ := keyOf_at h1 h2
  obtain ⟨w', hrun, h3, h4⟩ := hown.store at_law ht hn (ps := []) (d := .held v) hl rfl
  refine ⟨w', hrun, ⟨_, h3, fun a' l' hl' => ?_⟩, h4⟩
  have hm := hown.isMap
  unfold updM
  by_cases e : a' = a
  · subst e
    obtain rfl : l = l' := by rw [hl] at hl'; exact Option.some.inj hl'
    rw [if_pos rfl]
    simp [lookD, Maps.has_put_same hm (at_law.key hl), Maps.atKey_put_same hm (at_law.key hl), unheld]
  · have hne : l' ≠ l := fun e2 => e (at_inj hl' (e2 ▸ hl))
    rw [if_neg e, ← hf a' l' hl']
    simp [lookD, Maps.has_put_other hne, Maps.atKey_put_other hne]

set_option maxRecDepth 100000 in
theorem MapIs.drop (h : MapIs w b n f) {t e : TypeId} (ht : Try.prog.underlying t = some (.map 68 e)) {a : Int × Int} (h1 : W64 a.1) (h2 : W64 a.2) (ty : TypeId) :
    ∃ w', (Builtin.delete_ #[t, 68] ty #[.map (some b), atv a]).run Try.prog w = .ok (.tuple #[]) w' ∧ MapIs w' b n (updM f a none) ∧ w.mapTurned w' b := by
  obtain ⟨D, hown, hf⟩ := h
  obtain ⟨l, hl⟩ := keyOf_at h1 h2
  obtain ⟨w', hrun, h3, h4⟩ := hown.drop at_law ht hl ty
  refine ⟨w', hrun, ⟨_, h3, fun a' l' hl' => ?_⟩, h4⟩
  unfold updM
  by_cases e : a' = a
  · subst e
    obtain rfl : l = l' := by rw [hl] at hl'; exact Option.some.inj hl'
    rw [if_pos rfl]
    simp [lookD, Maps.has_del_same]
  · have hne : l' ≠ l := fun e2 => e (at_inj hl' (e2 ▸ hl))
    rw [if_neg e, ← hf a' l' hl']
    simp [lookD, Maps.has_del_other hne, Maps.atKey_del_other hne]
end

/-! at the operation -/
section
variable (w : World) {ops : Array Oper} {rest : List Oper} {o : Oper} {a : Act} {Q : Exit → Act → World → Prop}
theorem wpList_place_store (hg : o.guard = none) (m x v : Operand) (t : TypeId) (hop : o.op = Op.mapUpdate t m x v) (e : TypeId) (ht : Try.prog.underlying t = some (.map 68 e)) (b n : Nat) (f : Int × Int → Option Value)
    (hm : a.eval m = .map (some b)) (h : MapIs w b n f) (hn : n < maxLen) (p : Int × Int) (hx : a.eval x = atv p) (h1 : W64 p.1) (h2 : W64 p.2) (u : Value) (hv : a.eval v = u)
    (hK : ∀ w', MapIs w' b (n + 1) (updM f p (some u)) → w.mapTurned w' b → wpList Try.prog ops Q rest (a.put o.dst undef) w') : wpList Try.prog ops Q (o :: rest) a w := by
  refine wpList_plain hg fun K' hK' => ?_
  obtain ⟨w', hrun, r1, r2⟩ := h.store ht hn h1 h2 u
  unfold Oper.wp
  simp [execOp, hop, hm, hx, hv, hrun, Result.andThen]
  exact hK' _ _ (hK w' r1 r2)
theorem wpList_place_drop (hg : o.guard = none) (m x : Operand) (t : TypeId) (hop : o.op = Op.call { callee := Callee.builtin Builtin.delete, args := #[m, x], argTypes := #[t, 68] }) (e : TypeId) (ht : Try.prog.underlying t = some (.map 68 e)) (b n : Nat) (f : Int × Int → Option Value)
    (hm : a.eval m = .map (some b)) (h : MapIs w b n f) (p : Int × Int) (hx : a.eval x = atv p) (h1 : W64 p.1) (h2 : W64 p.2)
    (hK : ∀ w', MapIs w' b n (updM f p none) → w.mapTurned w' b → wpList Try.prog ops Q rest (a.put o.dst (.tuple #[])) w') : wpList Try.prog ops Q (o :: rest) a w := by
  refine wpList_plain hg fun K' hK' => ?_
  obtain ⟨w', hrun, r1, r2⟩ := h.drop ht h1 h2 o.type
  unfold Oper.wp
  simp [execOp, hop, resolve, invoke, builtin, hm, hx, hrun, Result.andThen]
  exact hK' _ _ (hK w' r1 r2)
end
end Go.Proofs.Ythgjlofebicpiaa

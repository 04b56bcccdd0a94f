/-
  A map whose keys are places (pairs of integers): told as a function. Nothing here looks at an element: it is read as itself.
-/
import Derived.Test.YtajehmdmgkhkpaaProg
import Derived.Test.YtajehmdmgkhkpaaMem
import Derived.Maps.OwnSet
import Derived.Maps.Views
import Derived.DeepKeys5
namespace Go.Proofs.Ytajehmdmgkhkpaa
open Go.RowKit
set_option linter.unusedVariables false

theorem at_law : Maps.Keyed Try.prog 50 := Maps.Keyed.of_law (deep_law_laid (by kernel_rfl) (m := 5) (by omega) (of_decide_eq_true (by kernel_rfl)) (by kernel_rfl) (by kernel_rfl))
abbrev W64 (a : Int) : Prop := (Lit.int .i64 a).wf = true
abbrev atv (a : Int × Int) : Value := .agg #[.int .i64 a.1, .int .i64 a.2]
theorem keyOf_two {P : Program} {k e : TypeId} {f0 f1 : Field} {q : IntKind} {m : Nat} (hu : P.underlying k = some (.struct #[f0, f1])) (hk : P.keyType k = true) (hsz : P.types.size = m + 1) (hc : P.cellsOf k = 2) (he : P.underlying e = some (.int q)) (hc2 : P.cellsOf e = 1)
    (h0 : f0.type = e) (h1 : f1.type = e) (o0 : f0.offset = 0) (o1 : f1.offset = 1) (n0 : (f0.name != "_") = true) (n1 : (f1.name != "_") = true) {a b : Int} (wa : (Lit.int q a).wf = true) (wb : (Lit.int q b).wf = true) :
    keyOf P k (.agg #[.int q a, .int q b]) = some (.string (keyBytes [.int q a, .int q b])) := by
  unfold keyOf
  simp only [hu]
  rw [if_pos (by simp [hk, Value.formed, hu, hc]), hsz]
  unfold Program.keyLits
  simp only [hu, Value.cells]
  rw [if_pos ⟨by rw [hc]; rfl, by simp [n0, n1]⟩]
  simp only [List.mapM_cons, List.mapM_nil]
  rw [h0, h1, o0, o1, hc2]
  have hi : ∀ c : Int, (Lit.int q c).wf = true → P.keyLits (m + 1) e [.int q c] = some [.int q c] := by
    intro c hc
    unfold Program.keyLits
    simp [he, hc]
  simp [hi a wa, hi b wb]

theorem keyOf_at {a : Int × Int} (h1 : W64 a.1) (h2 : W64 a.2) : ∃ l, keyOf Try.prog 50 (atv a) = some l :=
  ⟨_, keyOf_two (m := Try.prog.types.size - 1) Try.underlying50 (by kernel_rfl) (by kernel_rfl) (by kernel_rfl) Try.underlying3 (by kernel_rfl) rfl rfl rfl rfl (by decide) (by decide) h1 h2⟩

/-- an element is read as itself -/
def asIs (v : Value) : Option (DataW Value × List MemPlace) := some (.held v, [])
def unheld : DataW Value → Option Value
  | .held v => some v
  | _ => none
/-- what stands at a key -/
def lookD (D : DataW Value) (l : Lit) : Option Value := if Maps.has D l then unheld (D.atKey l .nil) else none

/-- 'MapIs w b n f': block b is a map of at most n entries; f tells what stands at each place -/
def MapIs (w : World) (b n : Nat) (f : Int × Int → Option Value) : Prop :=
  ∃ D : DataW Value, w.ownsMap Try.prog 50 asIs b n D ∧ (∀ a l, keyOf Try.prog 50 (atv a) = some l → lookD D l = f a)

def updM (f : Int × Int → Option Value) (a : Int × Int) (v : Option Value) : Int × Int → Option Value := fun x => if x = a then v else f x

section
variable {w w' : World} {b n : Nat} {f : Int × Int → Option Value}
theorem MapIs.lt (h : MapIs w b n f) : b < w.heap.size := by obtain ⟨D, h, _⟩ := h; exact h.lt
theorem MapIs.same (h : MapIs w b n f) (hb : w'.heap[b]? = w.heap[b]?) : MapIs w' b n f := by
  obtain ⟨D, ⟨es, clock, h1, h2⟩, h3⟩ := h
  exact ⟨D, ⟨es, clock, hb.trans h1, h2⟩, h3⟩
theorem MapIs.mono {m : Nat} (h : MapIs w b n f) (hm : n ≤ m) : MapIs w b m f := by
  obtain ⟨D, h, h3⟩ := h
  exact ⟨D, h.mono hm, h3⟩
theorem MapIs.is_map (h : MapIs w b n f) : ∃ es clock, w.heap[b]? = some (.map es clock) := by
  obtain ⟨D, ⟨es, clock, h1, h2⟩, h3⟩ := h
  exact ⟨es, clock, h1⟩
theorem MapIs.made (w : World) : MapIs (w.alloc (.map #[] 0)) w.heap.size 0 (fun _ => none) :=
  ⟨_, World.ownsMap_made w _ _ _, fun a l _ => by simp [lookD, Maps.has]⟩

theorem at_inj {a a' : Int × Int} {l : Lit} (h : keyOf Try.prog 50 (atv a) = some l) (h' : keyOf Try.prog 50 (atv a') = some l) : a = a' := by
  have := at_law.inj h h'
  simp [atv] at this
  exact Prod.ext this.1 this.2

set_option maxRecDepth 100000 in
theorem MapIs.look_ok (h : MapIs w b n f) {t e : TypeId} (ht : Try.prog.underlying t = some (.map 50 e)) {z : Value} (hz : (zeroValue e).run Try.prog w = .ok z w) {a : Int × Int} (h1 : W64 a.1) (h2 : W64 a.2) :
    (Instr.lookup t (.map (some b)) (atv a) true).run Try.prog w = .ok (.tuple #[(f a).getD z, .bool (f a).isSome]) w := by
  obtain ⟨D, hown, hf⟩ := h
  obtain ⟨l, hl⟩ := keyOf_at h1 h2
  obtain ⟨v, ps, hrun, hv⟩ := hown.look_ok at_law ht hz (zd := .held z) (zp := []) rfl hl
  have hfa := hf a l hl
  rw [hrun]
  unfold asIs at hv
  have hv1 : DataW.held v = D.atKey l (.held z) := congrArg Prod.fst (Option.some.inj hv)
  unfold lookD at hfa
  cases hh : Maps.has D l with
  | false =>
    rw [Maps.atKey_of_not_has hh] at hv1
    rw [hh] at hfa
    injection hv1 with hv1
    subst hv1
    simp at hfa
    simp [← hfa]
  | true =>
    rw [hh] at hfa
    simp at hfa
    have hsame : D.atKey l .nil = D.atKey l (.held z) := by
      obtain ⟨es, clock, hb, F, _, rfl⟩ := hown
      rcases Maps.fit_look true at_law ht hz hb F hl with ⟨_, _, hat⟩ | ⟨e0, y, _, _, _, _, hat, _⟩
      · exact absurd (Maps.has_false_of_atKey hat) (by rw [hh]; simp)
      · rw [hat, hat]
    rw [hsame, ← hv1] at hfa
    simp [unheld] at hfa
    simp [← hfa]

set_option maxRecDepth 100000 in
theorem MapIs.look (h : MapIs w b n f) {t e : TypeId} (ht : Try.prog.underlying t = some (.map 50 e)) {z : Value} (hz : (zeroValue e).run Try.prog w = .ok z w) {a : Int × Int} (h1 : W64 a.1) (h2 : W64 a.2) :
    (Instr.lookup t (.map (some b)) (atv a) false).run Try.prog w = .ok ((f a).getD z) w := by
  obtain ⟨D, hown, hf⟩ := h
  obtain ⟨l, hl⟩ := keyOf_at h1 h2
  obtain ⟨v, ps, hrun, hv⟩ := hown.lookup at_law ht hz (zd := .held z) (zp := []) rfl hl
  have hfa := hf a l hl
  rw [hrun]
  unfold asIs at hv
  have hv1 : DataW.held v = D.atKey l (.held z) := congrArg Prod.fst (Option.some.inj hv)
  unfold lookD at hfa
  cases hh : Maps.has D l with
  | false =>
    rw [Maps.atKey_of_not_has hh] at hv1
    rw [hh] at hfa
    injection hv1 with hv1
    subst hv1
    simp at hfa
    simp [← hfa]
  | true =>
    rw [hh] at hfa
    simp at hfa
    have hsame : D.atKey l .nil = D.atKey l (.held z) := by
      obtain ⟨es, clock, hb, F, _, rfl⟩ := hown
      rcases Maps.fit_look true at_law ht hz hb F hl with ⟨_, _, hat⟩ | ⟨e0, y, _, _, _, _, hat, _⟩
      · exact absurd (Maps.has_false_of_atKey hat) (by rw [hh]; simp)
      · rw [hat, hat]
    rw [hsame, ← hv1] at hfa
    simp [unheld] at hfa
    simp [← hfa]

set_option maxRecDepth 100000 in
theorem MapIs.store (h : MapIs w b n f) {t e : TypeId} (ht : Try.prog.underlying t = some (.map 50 e)) (hn : n < maxLen) {a : Int × Int} (h1 : W64 a.1) (h2 : W64 a.2) (v : Value) :
    ∃ w', (Instr.mapUpdate t (.map (some b)) (atv a) v).run Try.prog w = .ok () w' ∧ MapIs w' b (n + 1) (updM f a (some v)) ∧ w.mapTurned w' b := by
  obtain ⟨D, hown, hf⟩ := h
  obtain ⟨l, hl⟩ := keyOf_at h1 h2
  obtain ⟨w', hrun, h3, h4⟩ := hown.store at_law ht hn (ps := []) (d := .held v) hl rfl
  refine ⟨w', hrun, ⟨_, h3, fun a' l' hl' => ?_⟩, h4⟩
  have hm := hown.isMap
  unfold updM
  by_cases e : a' = a
  · subst e
    obtain rfl : l = l' := by rw [hl] at hl'; exact Option.some.inj hl'
    rw [if_pos rfl]
    simp [lookD, Maps.has_put_same hm (at_law.key hl), Maps.atKey_put_same hm (at_law.key hl), unheld]
  · have hne : l' ≠ l := fun e2 => e (at_inj hl' (e2 ▸ hl))
    rw [if_neg e, ← hf a' l' hl']
    simp [lookD, Maps.has_put_other hne, Maps.atKey_put_other hne]

set_option maxRecDepth 100000 in
theorem MapIs.drop (h : MapIs w b n f) {t e : TypeId} (ht : Try.prog.underlying t = some (.map 50 e)) {a : Int × Int} (h1 : W64 a.1) (h2 : W64 a.2) (ty : TypeId) :
    ∃ w', (Builtin.delete_ #[t, 50] ty #[.map (some b), atv a]).run Try.prog w = .ok (.tuple #[]) w' ∧ MapIs w' b n (updM f a none) ∧ w.mapTurned w' b := by
  obtain ⟨D, hown, hf⟩ := h
  obtain ⟨l, hl⟩ := keyOf_at h1 h2
  obtain ⟨w', hrun, h3, h4⟩ := hown.drop at_law ht hl ty
  refine ⟨w', hrun, ⟨_, h3, fun a' l' hl' => ?_⟩, h4⟩
  unfold updM
  by_cases e : a' = a
  · subst e
    obtain rfl : l = l' := by rw [hl] at hl'; exact Option.some.inj hl'
    rw [if_pos rfl]
    simp [lookD, Maps.has_del_same]
  · have hne : l' ≠ l := fun e2 => e (at_inj hl' (e2 ▸ hl))
    rw [if_neg e, ← hf a' l' hl']
    simp [lookD, Maps.has_del_other hne, Maps.atKey_del_other hne]
end

/-! at the operation -/
section
variable (w : World) {ops : Array Oper} {rest : List Oper} {o : Oper} {a : Act} {Q : Exit → Act → World → Prop}
theorem wpList_place_store (hg : o.guard = none) (m x v : Operand) (t : TypeId) (hop : o.op = Op.mapUpdate t m x v) (e : TypeId) (ht : Try.prog.underlying t = some (.map 50 e)) (b n : Nat) (f : Int × Int → Option Value)
    (hm : a.eval m = .map (some b)) (h : MapIs w b n f) (hn : n < maxLen) (p : Int × Int) (hx : a.eval x = atv p) (h1 : W64 p.1) (h2 : W64 p.2) (u : Value) (hv : a.eval v = u)
    (hK : ∀ w', MapIs w' b (n + 1) (updM f p (some u)) → w.mapTurned w' b → wpList Try.prog ops Q rest (a.put o.dst undef) w') : wpList Try.prog ops Q (o :: rest) a w := by
  refine wpList_plain hg fun K' hK' => ?_
  obtain ⟨w', hrun, r1, r2⟩ := h.store ht hn h1 h2 u
  unfold Oper.wp
  simp [execOp, hop, hm, hx, hv, hrun, Result.andThen]
  exact hK' _ _ (hK w' r1 r2)
theorem wpList_place_drop (hg : o.guard = none) (m x : Operand) (t : TypeId) (hop : o.op = Op.call { callee := Callee.builtin Builtin.delete, args := #[m, x], argTypes := #[t, 50] }) (e : TypeId) (ht : Try.prog.underlying t = some (.map 50 e)) (b n : Nat) (f : Int × Int → Option Value)
    (hm : a.eval m = .map (some b)) (h : MapIs w b n f) (p : Int × Int) (hx : a.eval x = atv p) (h1 : W64 p.1) (h2 : W64 p.2)
    (hK : ∀ w', MapIs w' b n (updM f p none) → w.mapTurned w' b → wpList Try.prog ops Q rest (a.put o.dst (.tuple #[])) w') : wpList Try.prog ops Q (o :: rest) a w := by
  refine wpList_plain hg fun K' hK' => ?_
  obtain ⟨w', hrun, r1, r2⟩ := h.drop ht h1 h2 o.type
  unfold Oper.wp
  simp [execOp, hop, resolve, invoke, builtin, hm, hx, hrun, Result.andThen]
  exact hK' _ _ (hK w' r1 r2)
end
end Go.Proofs.Ytajehmdmgkhkpaa

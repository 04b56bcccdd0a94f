/-
  A map whose keys are ints: told as a function. Nothing here looks at an element: it is read as itself.
-/
import Derived.Test.YtjjomfpkdbfhdaaMaps
namespace Go.Proofs.Ytjjomfpkdbfhdaa
open Go.RowKit
set_option linter.unusedVariables false

theorem il_law : Maps.Keyed Try.prog 3 := Maps.int_keyed Try.underlying3
abbrev ilv (a : Int) : Value := .int .i64 a
theorem keyOf_il {a : Int} (h1 : W64 a) : ∃ l, keyOf Try.prog 3 (ilv a) = some l := by
  refine ⟨.int .i64 a, ?_⟩
  have hk : Try.prog.keyType 3 = true := by kernel_rfl
  have hu : Try.prog.underlying 3 = some (.int .i64) := Try.underlying3
  simp [keyOf, mapKey, hu, ilv, h1]
/-- 'MapIi w b n f': block b is a map of at most n entries; f tells what stands at each place -/
def MapIi (w : World) (b n : Nat) (f : Int → Option Value) : Prop :=
  ∃ D : DataW Value, w.ownsMap Try.prog 3 asIs b n D ∧ (∀ a l, keyOf Try.prog 3 (ilv a) = some l → lookD D l = f a)

def updI (f : Int → Option Value) (a : Int) (v : Option Value) : Int → Option Value := fun x => if x = a then v else f x

section
variable {w w' : World} {b n : Nat} {f : Int → Option Value}
theorem MapIi.lt (h : MapIi w b n f) : b < w.heap.size := by obtain ⟨D, h, _⟩ := h; exact h.lt
theorem MapIi.same (h : MapIi w b n f) (hb : w'.heap[b]? = w.heap[b]?) : MapIi w' b n f := by
  obtain ⟨D, ⟨es, clock, h1, h2⟩, h3⟩ := h
  exact ⟨D, ⟨es, clock, hb.trans h1, h2⟩, h3⟩
theorem MapIi.mono {m : Nat} (h : MapIi w b n f) (hm : n ≤ m) : MapIi w b m f := by
  obtain ⟨D, h, h3⟩ := h
  exact ⟨D, h.mono hm, h3⟩
theorem MapIi.is_map (h : MapIi w b n f) : ∃ es clock, w.heap[b]? = some (.map es clock) := by
  obtain ⟨D, ⟨es, clock, h1, h2⟩, h3⟩ := h
  exact ⟨es, clock, h1⟩
theorem MapIi.made (w : World) : MapIi (w.alloc (.map #[] 0)) w.heap.size 0 (fun _ => none) :=
  ⟨_, World.ownsMap_made w _ _ _, fun a l _ => by simp [lookD, Maps.has]⟩

theorem il_inj {a a' : Int} {l : Lit} (h : keyOf Try.prog 3 (ilv a) = some l) (h' : keyOf Try.prog 3 (ilv a') = some l) : a = a' := by
  have := il_law.inj h h'
  simp at this
  exact this

set_option maxRecDepth 100000 in
theorem MapIi.look_ok (h : MapIi w b n f) {t e : TypeId} (ht : Try.prog.underlying t = some (.map 3 e)) {z : Value} (hz : (zeroValue e).run Try.prog w = .ok z w) {a : Int} (h1 : W64 a) :
    (Instr.lookup t (.map (some b)) (ilv a) true).run Try.prog w = .ok (.tuple #[(f a).getD z, .bool (f a).isSome]) w := by
  obtain ⟨D, hown, hf⟩ := h
  obtain ⟨l, hl⟩ := keyOf_il h1
  obtain ⟨v, ps, hrun, hv⟩ := hown.look_ok il_law ht hz (zd := .held z) (zp := []) rfl hl
  have hfa := hf a l hl
  rw [hrun]
  unfold asIs at hv
  have hv1 : DataW.held v = D.atKey l (.held z) := congrArg Prod.fst (Option.some.inj hv)
  unfold lookD at hfa
  cases hh : Maps.has D l with
  | false =>
    rw [Maps.atKey_of_not_has hh] at hv1
    rw [hh] at hfa
    injection hv1 with hv1
    subst hv1
    simp at hfa
    simp [← hfa]
  | true =>
    rw [hh] at hfa
    simp at hfa
    have hsame : D.atKey l .nil = D.atKey l (.held z) := by
      obtain ⟨es, clock, hb, F, _, rfl⟩ := hown
      rcases Maps.fit_look true il_law ht hz hb F hl with ⟨_, _, hat⟩ | ⟨e0, y, _, _, _, _, hat, _⟩
      · exact absurd (Maps.has_false_of_atKey hat) (by rw [hh]; simp)
      · rw [hat, hat]
    rw [hsame, ← hv1] at hfa
    simp [unheld] at hfa
    simp [← hfa]

set_option maxRecDepth 100000 in
theorem MapIi.look (h : MapIi w b n f) {t e : TypeId} (ht : Try.prog.underlying t = some (.map 3 e)) {z : Value} (hz : (zeroValue e).run Try.prog w = .ok z w) {a : Int} (h1 : W64 a) :
    (Instr.lookup t (.map (some b)) (ilv a) false).run Try.prog w = .ok ((f a).getD z) w := by
  obtain ⟨D, hown, hf⟩ := h
  obtain ⟨l, hl⟩ := keyOf_il h1
  obtain ⟨v, ps, hrun, hv⟩ := hown.lookup il_law ht hz (zd := .held z) (zp := []) rfl hl
  have hfa := hf a l hl
  rw [hrun]
  unfold asIs at hv
  have hv1 : DataW.held v = D.atKey l (.held z) := congrArg Prod.fst (Option.some.inj hv)
  unfold lookD at hfa
  cases hh : Maps.has D l with
  | false =>
    rw [Maps.atKey_of_not_has hh] at hv1
    rw [hh] at hfa
    injection hv1 with hv1
    subst hv1
    simp at hfa
    simp [← hfa]
  | true =>
    rw [hh] at hfa
    simp at hfa
    have hsame : D.atKey l .nil = D.atKey l (.held z) := by
      obtain ⟨es, clock, hb, F, _, rfl⟩ := hown
      rcases Maps.fit_look true il_law ht hz hb F hl with ⟨_, _, hat⟩ | ⟨e0, y, _, _, _, _, hat, _⟩
      · exact absurd (Maps.has_false_of_atKey hat) (by rw [hh]; simp)
      · rw [hat, hat]
    rw [hsame, ← hv1] at hfa
    simp [unheld] at hfa
    simp [← hfa]

set_option maxRecDepth 100000 in
theorem MapIi.store (h : MapIi w b n f) {t e : TypeId} (ht : Try.prog.underlying t = some (.map 3 e)) (hn : n < maxLen) {a : Int} (h1 : W64 a) (v : Value) :
    ∃ w', (Instr.mapUpdate t (.map (some b)) (ilv a) v).run Try.prog w = .ok () w' ∧ MapIi w' b (n + 1) (updI f a (some v)) ∧ w.mapTurned w' b := by
  obtain ⟨D, hown, hf⟩ := h
  obtain ⟨l, hl⟩ := keyOf_il h1
  obtain ⟨w', hrun, h3, h4⟩ := hown.store il_law ht hn (ps := []) (d := .held v) hl rfl
  refine ⟨w', hrun, ⟨_, h3, fun a' l' hl' => ?_⟩, h4⟩
  have hm := hown.isMap
  unfold updI
  by_cases e : a' = a
  · subst e
    obtain rfl : l = l' := by rw [hl] at hl'; exact Option.some.inj hl'
    rw [if_pos rfl]
    simp [lookD, Maps.has_put_same hm (il_law.key hl), Maps.atKey_put_same hm (il_law.key hl), unheld]
  · have hne : l' ≠ l := fun e2 => e (il_inj hl' (e2 ▸ hl))
    rw [if_neg e, ← hf a' l' hl']
    simp [lookD, Maps.has_put_other hne, Maps.atKey_put_other hne]

set_option maxRecDepth 100000 in
theorem MapIi.drop (h : MapIi w b n f) {t e : TypeId} (ht : Try.prog.underlying t = some (.map 3 e)) {a : Int} (h1 : W64 a) (ty : TypeId) :
    ∃ w', (Builtin.delete_ #[t, 3] ty #[.map (some b), ilv a]).run Try.prog w = .ok (.tuple #[]) w' ∧ MapIi w' b n (updI f a none) ∧ w.mapTurned w' b := by
  obtain ⟨D, hown, hf⟩ := h
  obtain ⟨l, hl⟩ := keyOf_il h1
  obtain ⟨w', hrun, h3, h4⟩ := hown.drop il_law ht hl ty
  refine ⟨w', hrun, ⟨_, h3, fun a' l' hl' => ?_⟩, h4⟩
  unfold updI
  by_cases e : a' = a
  · subst e
    obtain rfl : l = l' := by rw [hl] at hl'; exact Option.some.inj hl'
    rw [if_pos rfl]
    simp [lookD, Maps.has_del_same]
  · have hne : l' ≠ l := fun e2 => e (il_inj hl' (e2 ▸ hl))
    rw [if_neg e, ← hf a' l' hl']
    simp [lookD, Maps.has_del_other hne, Maps.atKey_del_other hne]
end

/-! at the operation -/
section
variable (w : World) {ops : Array Oper} {rest : List Oper} {o : Oper} {a : Act} {Q : Exit → Act → World → Prop}
theorem wpList_il_store (hg : o.guard = none) (m x v : Operand) (t : TypeId) (hop : o.op = Op.mapUpdate t m x v) (e : TypeId) (ht : Try.prog.underlying t = some (.map 3 e)) (b n : Nat) (f : Int → Option Value)
    (hm : a.eval m = .map (some b)) (h : MapIi w b n f) (hn : n < maxLen) (p : Int) (hx : a.eval x = ilv p) (h1 : W64 p) (u : Value) (hv : a.eval v = u)
    (hK : ∀ w', MapIi w' b (n + 1) (updI f p (some u)) → w.mapTurned w' b → wpList Try.prog ops Q rest (a.put o.dst undef) w') : wpList Try.prog ops Q (o :: rest) a w := by
  refine wpList_plain hg fun K' hK' => ?_
  obtain ⟨w', hrun, r1, r2⟩ := h.store ht hn h1 u
  unfold Oper.wp
  simp [execOp, hop, hm, hx, hv, hrun, Result.andThen]
  exact hK' _ _ (hK w' r1 r2)
theorem wpList_il_drop (hg : o.guard = none) (m x : Operand) (t : TypeId) (hop : o.op = Op.call { callee := Callee.builtin Builtin.delete, args := #[m, x], argTypes := #[t, 3] }) (e : TypeId) (ht : Try.prog.underlying t = some (.map 3 e)) (b n : Nat) (f : Int → Option Value)
    (hm : a.eval m = .map (some b)) (h : MapIi w b n f) (p : Int) (hx : a.eval x = ilv p) (h1 : W64 p)
    (hK : ∀ w', MapIi w' b n (updI f p none) → w.mapTurned w' b → wpList Try.prog ops Q rest (a.put o.dst (.tuple #[])) w') : wpList Try.prog ops Q (o :: rest) a w := by
  refine wpList_plain hg fun K' hK' => ?_
  obtain ⟨w', hrun, r1, r2⟩ := h.drop ht h1 o.type
  unfold Oper.wp
  simp [execOp, hop, resolve, invoke, builtin, hm, hx, hrun, Result.andThen]
  exact hK' _ _ (hK w' r1 r2)
end
end Go.Proofs.Ytjjomfpkdbfhdaa

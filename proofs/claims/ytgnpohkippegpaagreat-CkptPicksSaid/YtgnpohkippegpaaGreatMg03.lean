/-
  Maps DevC DevD
-/
import Derived.Test.YtgnpohkippegpaaGreatProg
import Derived.Test.YtgnpohkippegpaaGreatMg00
import Derived.Maps.OwnSet
import Derived.Maps.Views
import Derived.DeepKeys5
import Derived.Test.YtgnpohkippegpaaGreatMg02
import Derived.Deep.MidRow
import Derived.StillTailTactics
import Derived.Maps.RangeWalk
import Derived.Deep.RegionLaw
/-
  A map whose keys are places (pairs of integers): told as a function. Nothing here looks at an element: it is read as itself.
-/
namespace Go.Proofs.YtgnpohkippegpaaGreat
open Go.RowKit
set_option linter.unusedVariables false

theorem at_law : Maps.Keyed Tryz.prog 47 := Maps.Keyed.of_law (deep_law_laid (by kernel_rfl) (m := 5) (by omega) (of_decide_eq_true (by kernel_rfl)) (by kernel_rfl) (by kernel_rfl))
abbrev W64 (a : Int) : Prop := (Lit.int .i64 a).wf = true
abbrev atv (a : Int × Int) : Value := .agg #[.int .i64 a.1, .int .i64 a.2]
theorem keyOf_two {P : Program} {k e : TypeId} {f0 f1 : Field} {q : IntKind} {m : Nat} (hu : P.underlying k = some (.struct #[f0, f1])) (hk : P.keyType k = true) (hsz : P.types.size = m + 1) (hc : P.cellsOf k = 2) (he : P.underlying e = some (.int q)) (hc2 : P.cellsOf e = 1)
    (h0 : f0.type = e) (h1 : f1.type = e) (o0 : f0.offset = 0) (o1 : f1.offset = 1) (n0 : (f0.name != "_") = true) (n1 : (f1.name != "_") = true) {a b : Int} (wa : (Lit.int q a).wf = true) (wb : (Lit.int q b).wf = true) :
    keyOf P k (.agg #[.int q a, .int q b]) = some (.string (keyBytes [.int q a, .int q b])) := by
  unfold keyOf
  simp only [hu]
  rw [if_pos (by simp [hk, Value.formed, hu, hc]), hsz]
  unfold Program.keyLits
  simp only [hu, Value.cells]
  rw [if_pos ⟨by rw [hc]; rfl, by simp [n0, n1]⟩]
  simp only [List.mapM_cons, List.mapM_nil]
  rw [h0, h1, o0, o1, hc2]
  have hi : ∀ c : Int, (Lit.int q c).wf = true → P.keyLits (m + 1) e [.int q c] = some [.int q c] := by
    intro c hc
    unfold Program.keyLits
    simp [he, hc]
  simp [hi a wa, hi b wb]

theorem keyOf_at {a : Int × Int} (h1 : W64 a.1) (h2 : W64 a.2) : ∃ l, keyOf Tryz.prog 47 (atv a) = some l :=
  ⟨_, keyOf_two (m := Tryz.prog.types.size - 1) Tryz.underlying47 (by kernel_rfl) (by kernel_rfl) (by kernel_rfl) Tryz.underlying3 (by kernel_rfl) rfl rfl rfl rfl (by decide) (by decide) h1 h2⟩

/-- an element is read as itself -/
def asIs (v : Value) : Option (DataW Value × List MemPlace) := some (.held v, [])
def unheld : DataW Value → Option Value
  | .held v => some v
  | _ => none
/-- what stands at a key -/
def lookD (D : DataW Value) (l : Lit) : Option Value := if Maps.has D l then unheld (D.atKey l .nil) else none

/-- 'MapIs w b n f': block b is a map of at most n entries; f tells what stands at each place -/
def MapIs (w : World) (b n : Nat) (f : Int × Int → Option Value) : Prop :=
  ∃ D : DataW Value, w.ownsMap Tryz.prog 47 asIs b n D ∧ (∀ a l, keyOf Tryz.prog 47 (atv a) = some l → lookD D l = f a)

def updM (f : Int × Int → Option Value) (a : Int × Int) (v : Option Value) : Int × Int → Option Value := fun x => if x = a then v else f x

section
variable {w w' : World} {b n : Nat} {f : Int × Int → Option Value}
theorem MapIs.lt (h : MapIs w b n f) : b < w.heap.size := by obtain ⟨D, h, _⟩ := h; exact h.lt
theorem MapIs.same (h : MapIs w b n f) (hb : w'.heap[b]? = w.heap[b]?) : MapIs w' b n f := by
  obtain ⟨D, ⟨es, clock, h1, h2⟩, h3⟩ := h
  exact ⟨D, ⟨es, clock, hb.trans h1, h2⟩, h3⟩
theorem MapIs.mono {m : Nat} (h : MapIs w b n f) (hm : n ≤ m) : MapIs w b m f := by
  obtain ⟨D, h, h3⟩ := h
  exact ⟨D, h.mono hm, h3⟩
theorem MapIs.is_map (h : MapIs w b n f) : ∃ es clock, w.heap[b]? = some (.map es clock) := by
  obtain ⟨D, ⟨es, clock, h1, h2⟩, h3⟩ := h
  exact ⟨es, clock, h1⟩
theorem MapIs.made (w : World) : MapIs (w.alloc (.map #[] 0)) w.heap.size 0 (fun _ => none) :=
  ⟨_, World.ownsMap_made w _ _ _, fun a l _ => by simp [lookD, Maps.has]⟩

theorem at_inj {a a' : Int × Int} {l : Lit} (h : keyOf Tryz.prog 47 (atv a) = some l) (h' : keyOf Tryz.prog 47 (atv a') = some l) : a = a' := by
  have := at_law.inj h h'
  simp [atv] at this
  exact Prod.ext this.1 this.2

set_option maxRecDepth 100000 in
theorem MapIs.look_ok (h : MapIs w b n f) {t e : TypeId} (ht : Tryz.prog.underlying t = some (.map 47 e)) {z : Value} (hz : (zeroValue e).run Tryz.prog w = .ok z w) {a : Int × Int} (h1 : W64 a.1) (h2 : W64 a.2) :
    (Instr.lookup t (.map (some b)) (atv a) true).run Tryz.prog w = .ok (.tuple #[(f a).getD z, .bool (f a).isSome]) w := by
  obtain ⟨D, hown, hf⟩ := h
  obtain ⟨l, hl⟩ := keyOf_at h1 h2
  obtain ⟨v, ps, hrun, hv⟩ := hown.look_ok at_law ht hz (zd := .held z) (zp := []) rfl hl
  have hfa := hf a l hl
  rw [hrun]
  unfold asIs at hv
  have hv1 : DataW.held v = D.atKey l (.held z) := congrArg Prod.fst (Option.some.inj hv)
  unfold lookD at hfa
  cases hh : Maps.has D l with
  | false =>
    rw [Maps.atKey_of_not_has hh] at hv1
    rw [hh] at hfa
    injection hv1 with hv1
    subst hv1
    simp at hfa
    simp [← hfa]
  | true =>
    rw [hh] at hfa
    simp at hfa
    have hsame : D.atKey l .nil = D.atKey l (.held z) := by
      obtain ⟨es, clock, hb, F, _, rfl⟩ := hown
      rcases Maps.fit_look true at_law ht hz hb F hl with ⟨_, _, hat⟩ | ⟨e0, y, _, _, _, _, hat, _⟩
      · exact absurd (Maps.has_false_of_atKey hat) (by rw [hh]; simp)
      · rw [hat, hat]
    rw [hsame, ← hv1] at hfa
    simp [unheld] at hfa
    simp [← hfa]

set_option maxRecDepth 100000 in
theorem MapIs.look (h : MapIs w b n f) {t e : TypeId} (ht : Tryz.prog.underlying t = some (.map 47 e)) {z : Value} (hz : (zeroValue e).run Tryz.prog w = .ok z w) {a : Int × Int} (h1 : W64 a.1) (h2 : W64 a.2) :
    (Instr.lookup t (.map (some b)) (atv a) false).run Tryz.prog w = .ok ((f a).getD z) w := by
  obtain ⟨D, hown, hf⟩ := h
  obtain ⟨l, hl⟩ := keyOf_at h1 h2
  obtain ⟨v, ps, hrun, hv⟩ := hown.lookup at_law ht hz (zd := .held z) (zp := []) rfl hl
  have hfa := hf a l hl
  rw [hrun]
  unfold asIs at hv
  have hv1 : DataW.held v = D.atKey l (.held z) := congrArg Prod.fst (Option.some.inj hv)
  unfold lookD at hfa
  cases hh : Maps.has D l with
  | false =>
    rw [Maps.atKey_of_not_has hh] at hv1
    rw [hh] at hfa
    injection hv1 with hv1
    subst hv1
    simp at hfa
    simp [← hfa]
  | true =>
    rw [hh] at hfa
    simp at hfa
    have hsame : D.atKey l .nil = D.atKey l (.held z) := by
      obtain ⟨es, clock, hb, F, _, rfl⟩ := hown
      rcases Maps.fit_look true at_law ht hz hb F hl with ⟨_, _, hat⟩ | ⟨e0, y, _, _, _, _, hat, _⟩
      · exact absurd (Maps.has_false_of_atKey hat) (by rw [hh]; simp)
      · rw [hat, hat]
    rw [hsame, ← hv1] at hfa
    simp [unheld] at hfa
    simp [← hfa]

set_option maxRecDepth 100000 in
theorem MapIs.store (h : MapIs w b n f) {t e : TypeId} (ht : Tryz.prog.underlying t = some (.map 47 e)) (hn : n < maxLen) {a : Int × Int} (h1 : W64 a.1) (h2 : W64 a.2) (v : Value) :
    ∃ w', (Instr.mapUpdate t (.map (some b)) (atv a) v).run Tryz.prog w = .ok () w' ∧ MapIs w' b (n + 1) (updM f a (some v)) ∧ w.mapTurned w' b := by
  obtain ⟨D, hown, hf⟩ := h
  obtain ⟨l, hl⟩ := keyOf_at h1 h2
  obtain ⟨w', hrun, h3, h4⟩ := hown.store at_law ht hn (ps := []) (d := .held v) hl rfl
  refine ⟨w', hrun, ⟨_, h3, fun a' l' hl' => ?_⟩, h4⟩
  have hm := hown.isMap
  unfold updM
  by_cases e : a' = a
  · subst e
    obtain rfl : l = l' := by rw [hl] at hl'; exact Option.some.inj hl'
    rw [if_pos rfl]
    simp [lookD, Maps.has_put_same hm (at_law.key hl), Maps.atKey_put_same hm (at_law.key hl), unheld]
  · have hne : l' ≠ l := fun e2 => e (at_inj hl' (e2 ▸ hl))
    rw [if_neg e, ← hf a' l' hl']
    simp [lookD, Maps.has_put_other hne, Maps.atKey_put_other hne]

set_option maxRecDepth 100000 in
theorem MapIs.drop (h : MapIs w b n f) {t e : TypeId} (ht : Tryz.prog.underlying t = some (.map 47 e)) {a : Int × Int} (h1 : W64 a.1) (h2 : W64 a.2) (ty : TypeId) :
    ∃ w', (Builtin.delete_ #[t, 47] ty #[.map (some b), atv a]).run Tryz.prog w = .ok (.tuple #[]) w' ∧ MapIs w' b n (updM f a none) ∧ w.mapTurned w' b := by
  obtain ⟨D, hown, hf⟩ := h
  obtain ⟨l, hl⟩ := keyOf_at h1 h2
  obtain ⟨w', hrun, h3, h4⟩ := hown.drop at_law ht hl ty
  refine ⟨w', hrun, ⟨_, h3, fun a' l' hl' => ?_⟩, h4⟩
  unfold updM
  by_cases e : a' = a
  · subst e
    obtain rfl : l = l' := by rw [hl] at hl'; exact Option.some.inj hl'
    rw [if_pos rfl]
    simp [lookD, Maps.has_del_same]
  · have hne : l' ≠ l := fun e2 => e (at_inj hl' (e2 ▸ hl))
    rw [if_neg e, ← hf a' l' hl']
    simp [lookD, Maps.has_del_other hne, Maps.atKey_del_other hne]
end

/-! at the operation -/
section
variable (w : World) {ops : Array Oper} {rest : List Oper} {o : Oper} {a : Act} {Q : Exit → Act → World → Prop}
theorem wpList_place_store (hg : o.guard = none) (m x v : Operand) (t : TypeId) (hop : o.op = Op.mapUpdate t m x v) (e : TypeId) (ht : Tryz.prog.underlying t = some (.map 47 e)) (b n : Nat) (f : Int × Int → Option Value)
    (hm : a.eval m = .map (some b)) (h : MapIs w b n f) (hn : n < maxLen) (p : Int × Int) (hx : a.eval x = atv p) (h1 : W64 p.1) (h2 : W64 p.2) (u : Value) (hv : a.eval v = u)
    (hK : ∀ w', MapIs w' b (n + 1) (updM f p (some u)) → w.mapTurned w' b → wpList Tryz.prog ops Q rest (a.put o.dst undef) w') : wpList Tryz.prog ops Q (o :: rest) a w := by
  refine wpList_plain hg fun K' hK' => ?_
  obtain ⟨w', hrun, r1, r2⟩ := h.store ht hn h1 h2 u
  unfold Oper.wp
  simp [execOp, hop, hm, hx, hv, hrun, Result.andThen]
  exact hK' _ _ (hK w' r1 r2)
theorem wpList_place_drop (hg : o.guard = none) (m x : Operand) (t : TypeId) (hop : o.op = Op.call { callee := Callee.builtin Builtin.delete, args := #[m, x], argTypes := #[t, 47] }) (e : TypeId) (ht : Tryz.prog.underlying t = some (.map 47 e)) (b n : Nat) (f : Int × Int → Option Value)
    (hm : a.eval m = .map (some b)) (h : MapIs w b n f) (p : Int × Int) (hx : a.eval x = atv p) (h1 : W64 p.1) (h2 : W64 p.2)
    (hK : ∀ w', MapIs w' b n (updM f p none) → w.mapTurned w' b → wpList Tryz.prog ops Q rest (a.put o.dst (.tuple #[])) w') : wpList Tryz.prog ops Q (o :: rest) a w := by
  refine wpList_plain hg fun K' hK' => ?_
  obtain ⟨w', hrun, r1, r2⟩ := h.drop ht h1 h2 o.type
  unfold Oper.wp
  simp [execOp, hop, resolve, invoke, builtin, hm, hx, hrun, Result.andThen]
  exact hK' _ _ (hK w' r1 r2)
end
end Go.Proofs.YtgnpohkippegpaaGreat

/-
  Package dev: the device's block; why something is refused; the numbers that it tells.
-/
namespace Go.Proofs.YtgnpohkippegpaaGreat
open Go.RowKit Geom Zone Dev
set_option linter.unusedVariables false

abbrev dcs (conv soft seq size opn : Int) (zv : Value) (lb : Nat) (cv : Value) (nb : Nat) (down : Bool) (armed ill : Int) : Array Value :=
  #[.int .i64 conv, .int .i64 soft, .int .i64 seq, .int .i64 size, .int .i64 opn, zv, .map (some lb), cv, .map (some nb), .bool down, .int .i64 armed, .int .i64 ill]
/-- block d is a device -/
def DBlk (w : World) (d : Nat) (conv soft seq size opn : Int) (zv : Value) (lb : Nat) (cv : Value) (nb : Nat) (down : Bool) (armed ill : Int) : Prop :=
  w.heap[d]? = some (.cells (dcs conv soft seq size opn zv lb cv nb down armed ill) 65 (0, 0))
abbrev dp (d : Nat) : Value := .pointer (some ⟨d, 0, none⟩)

section
variable {w : World} {d : Nat} {conv soft seq size opn : Int} {zv : Value} {lb : Nat} {cv : Value} {nb : Nat} {down : Bool} {armed ill : Int}
theorem DBlk.lt (h : DBlk w d conv soft seq size opn zv lb cv nb down armed ill) : d < w.heap.size := lt_of_block h
theorem DBlk.same {w' : World} (h : DBlk w d conv soft seq size opn zv lb cv nb down armed ill) (hb : w'.heap[d]? = w.heap[d]?) : DBlk w' d conv soft seq size opn zv lb cv nb down armed ill := hb.trans h
theorem DBlk.frozen (h : DBlk w d conv soft seq size opn zv lb cv nb down armed ill) (i : Nat) : w.frozen? ⟨d, i, none⟩ = false := frozen_of_row _ _ _ _ _ h
theorem DBlk.geo (h : DBlk w d conv soft seq size opn zv lb cv nb down armed ill) : w.cell? ⟨d, 0, none⟩ = some (.int .i64 conv) ∧ w.cell? ⟨d, 1, none⟩ = some (.int .i64 soft) ∧ w.cell? ⟨d, 2, none⟩ = some (.int .i64 seq) ∧
    w.cell? ⟨d, 3, none⟩ = some (.int .i64 size) ∧ w.cell? ⟨d, 4, none⟩ = some (.int .i64 opn) :=
  ⟨cell_of_row _ _ 0 _ _ _ h, cell_of_row _ _ 1 _ _ _ h, cell_of_row _ _ 2 _ _ _ h, cell_of_row _ _ 3 _ _ _ h, cell_of_row _ _ 4 _ _ _ h⟩
theorem DBlk.mem (h : DBlk w d conv soft seq size opn zv lb cv nb down armed ill) : w.cell? ⟨d, 5, none⟩ = some zv ∧ w.cell? ⟨d, 6, none⟩ = some (.map (some lb)) ∧ w.cell? ⟨d, 7, none⟩ = some cv ∧ w.cell? ⟨d, 8, none⟩ = some (.map (some nb)) :=
  ⟨cell_of_row _ _ 5 _ _ _ h, cell_of_row _ _ 6 _ _ _ h, cell_of_row _ _ 7 _ _ _ h, cell_of_row _ _ 8 _ _ _ h⟩
theorem DBlk.num (h : DBlk w d conv soft seq size opn zv lb cv nb down armed ill) : w.cell? ⟨d, 9, none⟩ = some (.bool down) ∧ w.cell? ⟨d, 10, none⟩ = some (.int .i64 armed) ∧ w.cell? ⟨d, 11, none⟩ = some (.int .i64 ill) :=
  ⟨cell_of_row _ _ 9 _ _ _ h, cell_of_row _ _ 10 _ _ _ h, cell_of_row _ _ 11 _ _ _ h⟩
theorem DBlk.set5 (h : DBlk w d conv soft seq size opn zv lb cv nb down armed ill) (v : Value) : DBlk (w.setCell ⟨d, 5, none⟩ v) d conv soft seq size opn v lb cv nb down armed ill := (heap_setCell_same _ _ _ _ _ _ h).trans (by simp)
theorem DBlk.set7 (h : DBlk w d conv soft seq size opn zv lb cv nb down armed ill) (v : Value) : DBlk (w.setCell ⟨d, 7, none⟩ v) d conv soft seq size opn zv lb v nb down armed ill := (heap_setCell_same _ _ _ _ _ _ h).trans (by simp)
theorem DBlk.set8 (h : DBlk w d conv soft seq size opn zv lb cv nb down armed ill) (b : Nat) : DBlk (w.setCell ⟨d, 8, none⟩ (.map (some b))) d conv soft seq size opn zv lb cv b down armed ill := (heap_setCell_same _ _ _ _ _ _ h).trans (by simp)
theorem DBlk.set9 (h : DBlk w d conv soft seq size opn zv lb cv nb down armed ill) (b : Bool) : DBlk (w.setCell ⟨d, 9, none⟩ (.bool b)) d conv soft seq size opn zv lb cv nb b armed ill := (heap_setCell_same _ _ _ _ _ _ h).trans (by simp)
theorem DBlk.set10 (h : DBlk w d conv soft seq size opn zv lb cv nb down armed ill) (n : Int) : DBlk (w.setCell ⟨d, 10, none⟩ (.int .i64 n)) d conv soft seq size opn zv lb cv nb down n ill := (heap_setCell_same _ _ _ _ _ _ h).trans (by simp)
theorem DBlk.set11 (h : DBlk w d conv soft seq size opn zv lb cv nb down armed ill) (n : Int) : DBlk (w.setCell ⟨d, 11, none⟩ (.int .i64 n)) d conv soft seq size opn zv lb cv nb down armed n := (heap_setCell_same _ _ _ _ _ _ h).trans (by simp)

theorem DBlk.ne_map {n : Nat} {f : Int × Int → Option Value} {b : Nat} (h : DBlk w d conv soft seq size opn zv lb cv nb down armed ill) (hm : MapIs w b n f) : d ≠ b := by
  rintro rfl
  obtain ⟨es, clock, h2⟩ := hm.is_map
  unfold DBlk at h
  rw [h2] at h
  cases h
theorem DBlk.ne_row {e : TypeId} {sz n g : Nat} {v : Value} {xs : List Value} (h : DBlk w d conv soft seq size opn zv lb cv nb down armed ill) (hr : w.ownsRow 0 e sz v n xs) (hg : v.ownBlock = some g) (he : e ≠ 65) : d ≠ g := by
  rintro rfl
  obtain ⟨_, cur, h2⟩ := own_type hr hg
  unfold DBlk at h
  rw [h2] at h
  injection h with h
  injection h with _ h
  exact he h
theorem MapIs.ne_row {e : TypeId} {sz n m g b : Nat} {f : Int × Int → Option Value} {v : Value} {xs : List Value} (h : MapIs w b m f) (hr : w.ownsRow 0 e sz v n xs) (hg : v.ownBlock = some g) : b ≠ g := by
  rintro rfl
  obtain ⟨_, cur, h2⟩ := own_type hr hg
  obtain ⟨es, clock, h3⟩ := h.is_map
  rw [h2] at h3
  cases h3
theorem refusal_down (e : Int) (h : DBlk w d conv soft seq size opn zv lb cv nb true armed ill) :
    Calls Tryz.prog 29 #[dp d, .int .i64 e] w fun x w' => x = .returned (.int .i64 2) ∧ w = w' := by
  obtain ⟨c9, c10, c11⟩ := h.num
  go_enter Tryz.func29, Tryz.ntmps29
  go_wp2
  go_ret
  exact ⟨rfl, rfl⟩
theorem refusal_ok (h : DBlk w d conv soft seq size opn zv lb cv nb false armed ill) :
    Calls Tryz.prog 29 #[dp d, .int .i64 0] w fun x w' => x = .returned (.int .i64 0) ∧ w = w' := by
  obtain ⟨c9, c10, c11⟩ := h.num
  go_enter Tryz.func29, Tryz.ntmps29
  go_wp2
  go_ret
  exact ⟨rfl, rfl⟩
theorem refusal_no (e : Int) (he : e ≠ 0) (h0 : 0 ≤ ill) (h1 : ill ≤ 1000000) (h : DBlk w d conv soft seq size opn zv lb cv nb false armed ill) :
    Calls Tryz.prog 29 #[dp d, .int .i64 e] w fun x w' => x = .returned (.int .i64 e) ∧ w.setCell ⟨d, 11, none⟩ (.int .i64 (ill + 1)) = w' := by
  obtain ⟨c9, c10, c11⟩ := h.num
  have f11 := h.frozen 11
  have hq : (e != 0) = true := by simpa using he
  go_enter Tryz.func29, Tryz.ntmps29
  go_wp2
  go_ret
  exact ⟨rfl, rfl⟩
end
end Go.Proofs.YtgnpohkippegpaaGreat

/-
  Package dev: hold: a sector is cached behind all others.
-/
namespace Go.Proofs.YtgnpohkippegpaaGreat
open Go.RowKit Geom Zone Dev
set_option linter.unusedVariables false

abbrev newestV (l : List Wr) : Pl → Option Value := fun a => (newest l a).map fun i => .int .i64 (i : Int)
theorem elemW : Elem Tryz.prog 63 76 (.agg (Array.mk (.int .i64 0 :: .int .i64 0 :: List.replicate 64 (.int .u8 0)))) 66 80 := .of Tryz.underlying63 (by kernel_rfl) rfl (by omega)
theorem newestV_snoc (l : List Wr) (c : Wr) : updM (newestV l) c.pl (some (.int .i64 (l.length : Int))) = newestV (l ++ [c]) := by
  funext a
  unfold updM newestV
  rw [newest_snoc]
  split <;> rfl
/-- a value in a box of its own -/
theorem box_cells (w : World) (xs : List Value) (T : TypeId) (k : Nat) (u : Value) (h : xs[k]? = some u) : (w.alloc (.cells xs.toArray T)).cell? ⟨w.heap.size, k, none⟩ = some u := by
  rw [cell_of_row _ _ _ _ _ _ (MapKept.heap_alloc w _).1]
  simpa using h

section
variable {w : World} {d : Nat} {conv soft seq size opn : Int} {zv : Value} {lb : Nat} {cv : Value} {nb : Nat} {down : Bool} {armed ill : Int}

set_option maxRecDepth 100000 in
theorem hold_any (c : Wr) (l : List Wr) (n2 : Nat) (hc : c.2.2.length = 64) (hl : WOk l) (h1 : W64 c.1) (h2 : W64 c.2.1) (hll : l.length ≤ 100000) (hn2 : n2 ≤ 100000) (hD : DBlk w d conv soft seq size opn zv lb cv nb down armed ill)
    (hcv : w.ownsRow 0 76 66 cv l.length (wcs l)) (hm : MapIs w nb n2 (newestV l)) :
    Calls Tryz.prog 34 #[dp d, .agg (wc c).toArray] w fun x w' => x = .returned (.tuple #[]) ∧ ∃ cv', DBlk w' d conv soft seq size opn zv lb cv' nb down armed ill ∧
      w'.ownsRow 0 76 66 cv' (l ++ [c]).length (wcs (l ++ [c])) ∧ MapIs w' nb (n2 + 1) (newestV (l ++ [c])) ∧ Fr (fun k => k = d ∨ k = nb ∨ cv.ownBlock = some k) w w' ∧ (cv'.ownBlock = cv.ownBlock ∨ ∃ g, cv'.ownBlock = some g ∧ w.heap.size ≤ g) := by
  obtain ⟨A, cap, rfl⟩ := own_slice hcv
  have hlen : (wc c).length = 66 := wc_length hc
  have hw : ∀ w2 : World, (∀ k v, (wc c)[k]? = some v → w2.cell? ⟨w.heap.size, k, none⟩ = some v) → w2.cell? ⟨w.heap.size, 0, none⟩ = some (.int .i64 c.1) ∧ w2.cell? ⟨w.heap.size, 1, none⟩ = some (.int .i64 c.2.1) := fun w2 h => ⟨h 0 _ rfl, h 1 _ rfl⟩
  have hbx : ∀ k v, (wc c)[k]? = some v → (w.alloc (.cells (wc c).toArray 76)).cell? ⟨w.heap.size, k, none⟩ = some v := fun k v h => box_cells w _ _ k v h
  have hf0 : Fr (fun k => k = d ∨ k = nb ∨ (Value.slice A l.length cap).ownBlock = some k) w (w.alloc (.cells (wc c).toArray 76)) := (Fr.refl _).alloc _
  have hlt : w.heap.size < (w.alloc (.cells (wc c).toArray 76)).heap.size := by simp
  have hdl := hD.lt
  have hD1 : DBlk (w.alloc (.cells (wc c).toArray 76)) d conv soft seq size opn zv lb (.slice A l.length cap) nb down armed ill := hD.same (Below.heap_alloc _ _ _ hdl)
  have hcv1 := hcv.alloc (.cells (wc c).toArray 76)
  have hm1 := hm.same (w' := w.alloc (.cells (wc c).toArray 76)) (Below.heap_alloc _ _ _ hm.lt)
  have hnl := hm.lt
  go_enter Tryz.func34, Tryz.ntmps34
  go_wp2_with fail
  generalize World.alloc _ _ = w1 at hbx hf0 hlt hD1 hcv1 hm1 ⊢
  generalize w.heap.size = b at hw hbx hlt hdl hnl ⊢
  obtain ⟨q0, q1⟩ := hw w1 hbx
  obtain ⟨c5, c6, c7, c8⟩ := hD1.mem
  have hne := hD1.ne_map hm1
  have H := Lib.hid (And.intro hbx (And.intro hf0 (And.intro hcv1 hm1)))
  clear hbx hf0 hcv1 hD hcv hm hw
  go_still_tail 11, (by kernel_rfl)
  change wpList _ _ _ _ _ w1.drew
  refine wpList_place_store _ rfl _ _ _ _ rfl 3 Tryz.underlying62 nb n2 _ rfl (H.out.2.2.2.same rfl) (by unfold maxLen; omega) c.pl rfl h1 h2 _ rfl ?_
  intro w2 hm2 ht2
  have hg2 := ht2.grown
  have hD2 : DBlk w2 d conv soft seq size opn zv lb (.slice A l.length cap) nb down armed ill := hD1.same (hg2.block d hD1.lt (by simpa using hne))
  have q0 : w2.cell? ⟨b, 0, none⟩ = some (.int .i64 c.1) := hg2.cell q0 (by simp; omega)
  have hcv2 : w2.ownsRow 0 76 66 (.slice A l.length cap) l.length (wcs l) := own_same H.out.2.2.1 fun g hg => hg2.block g (H.out.2.2.1.lt g hg).2 (by have := hm1.ne_row H.out.2.2.1 hg; simp; omega)
  obtain ⟨c5', c6', c7', c8'⟩ := hD2.mem
  have f7 := hD2.frozen 7
  have hR : w2.rangeAt b 0 (wc c) := fun j v hj => by rw [Nat.zero_add]; exact hg2.cell (a := ⟨b, j, none⟩) (H.out.1 j v hj) (by simp; omega)
  obtain ⟨n, hn, hsz⟩ := big_size (P := Tryz.prog) (t := 76) (s := 66) (by kernel_rfl)
  have hlenn : (wc c).length = n := by rw [hlen, hn]
  have hld := big_load0 Tryz.prog b 0 (wc c) n hlenn
  have hn1 : ¬ 16777216 < n := by omega
  have hn0 : ¬ n = 0 := by omega
  have HN := Lib.hid hn
  clear hn
  have hne2 := Lib.hid hlen
  clear q0 q1 c5 c6 c7 c8 hlen c5' c6' c8'
  go_wp2_with fail
  go_frame
  have hv : (Value.int .i64 (l.length : Int)) = Value.int .i64 (l.length : Int) := rfl
  have hm2' : MapIs w2 nb (n2 + 1) (newestV (l ++ [c])) := by rw [← newestV_snoc]; exact hm2
  clear hv
  have HF := Lib.hid (fun (g3 cap3 : Nat) (w3 : World) (hown3 : w3.ownsRow 0 76 66 (.slice (some ⟨g3, 0, none⟩) (l.length + 1) cap3) (l.length + 1) (wcs l ++ wc c))
      (hg3 : (w2.drew.alloc (.cells (wc c).toArray 76)).grownBy w3 (Value.slice A l.length cap).ownBlock) (hat3 : (Value.slice A l.length cap).ownBlock = some g3 ∨ w2.heap.size ≤ g3) =>
    show ∃ cv', DBlk (w3.setCell ⟨d, 7, none⟩ (.slice (some ⟨g3, 0, none⟩) (l.length + 1) cap3)) d conv soft seq size opn zv lb cv' nb down armed ill ∧
      (w3.setCell ⟨d, 7, none⟩ (.slice (some ⟨g3, 0, none⟩) (l.length + 1) cap3)).ownsRow 0 76 66 cv' (l ++ [c]).length (wcs (l ++ [c])) ∧
      MapIs (w3.setCell ⟨d, 7, none⟩ (.slice (some ⟨g3, 0, none⟩) (l.length + 1) cap3)) nb (n2 + 1) (newestV (l ++ [c])) ∧
      Fr (fun k => k = d ∨ k = nb ∨ (Value.slice A l.length cap).ownBlock = some k) w (w3.setCell ⟨d, 7, none⟩ (.slice (some ⟨g3, 0, none⟩) (l.length + 1) cap3)) ∧
      (cv'.ownBlock = (Value.slice A l.length cap).ownBlock ∨ ∃ g, cv'.ownBlock = some g ∧ w.heap.size ≤ g) from by
    have hDs := hD2.lt
    have hms := hm2.lt
    have hnd : (Value.slice A l.length cap).ownBlock ≠ some d := fun h => hD2.ne_row hcv2 h (by decide) rfl
    have hnm : (Value.slice A l.length cap).ownBlock ≠ some nb := fun h => hm2.ne_row hcv2 h rfl
    have hD3 : DBlk w3 d conv soft seq size opn zv lb (.slice A l.length cap) nb down armed ill := hD2.same ((hg3.block d (by simp; omega) (fun e => hnd e.symm)).trans (Below.heap_alloc w2.drew _ _ hDs))
    have hm3 : MapIs w3 nb (n2 + 1) (newestV (l ++ [c])) := hm2'.same ((hg3.block nb (by simp; omega) (fun e => hnm e.symm)).trans (Below.heap_alloc w2.drew _ _ hms))
    have hgd : d ≠ g3 := hD3.ne_row hown3 rfl (by decide)
    have hnbd : d ≠ nb := hD3.ne_map hm3
    have e1 : (l ++ [c]).length = l.length + 1 := by simp
    have e2 : wcs (l ++ [c]) = wcs l ++ wc c := by rw [wcs_append, wcs_one]
    refine ⟨_, hD3.set7 _, ?_, hm3.same (heap_setCell_other _ _ _ _ (fun e => hnbd e.symm)), ?_, ?_⟩
    · rw [e1, e2]
      exact own_same hown3 fun g hg => heap_setCell_other _ _ _ _ (fun e => by injection hg with hg; exact hgd (e.symm.trans hg.symm))
    · have F1 := H.out.2.1
      have F2 : Fr (fun k => k = d ∨ k = nb ∨ (Value.slice A l.length cap).ownBlock = some k) w1 w2 := (Fr.refl w1).drew.trans (Fr.of_grown hg2 (fun k e => by injection e with e; exact .inr (.inl e.symm)))
      have F3 : Fr (fun k => k = d ∨ k = nb ∨ (Value.slice A l.length cap).ownBlock = some k) w2 w3 := ((Fr.refl w2).drew.alloc _).trans (Fr.of_grown hg3 (fun k e => .inr (.inr e)))
      exact ((F1.trans F2).trans F3).setCell _ _ (.inl rfl)
    · rcases hat3 with h | h
      · exact .inl h.symm
      · refine .inr ⟨g3, rfl, ?_⟩
        have s1 := H.out.2.1.size
        have s2 := hg2.size
        have s3 : w1.drew.heap.size = w1.heap.size := rfl
        omega)
  have hfold := fold_box Tryz.zeroCells76 66 (wc c) n hlenn
  have hda : ∀ (o : Obj) (k : Nat), (Value.slice A l.length cap).ownBlock = some d → False := fun o k h => hD2.ne_row hcv2 h (by decide) rfl
  have hK7 := Lib.hid (And.intro (fun (w3 : World) (hg3 : (w2.drew.alloc (.cells (wc c).toArray 76)).grownBy w3 (Value.slice A l.length cap).ownBlock) => show w3.cell? ⟨d, 7, none⟩ = some (.slice A l.length cap) from
      hg3.cell ((World.cell?_alloc_lt w2.drew _ ⟨d, 7, none⟩ hD2.lt).trans c7') (fun e => hda (.cells #[] 0) 0 e.symm))
    (fun (w3 : World) (hg3 : (w2.drew.alloc (.cells (wc c).toArray 76)).grownBy w3 (Value.slice A l.length cap).ownBlock) => show w3.frozen? ⟨d, 7, none⟩ = false from
      (World.frozen?_of_block (hg3.block d (by simp; have := hD2.lt; omega) (fun e => hda (.cells #[] 0) 0 e.symm))).trans ((World.frozen?_of_block (Below.heap_alloc w2.drew _ d hD2.lt)).trans f7)))
  have c7a : (w2.alloc (.cells (wc c).toArray 76)).cell? ⟨d, 7, none⟩ = some (.slice A l.length cap) := (World.cell?_alloc_lt w2 _ ⟨d, 7, none⟩ hD2.lt).trans c7'
  clear hda
  go_region_law (refine step_append_big _ rfl _ _ _ rfl 0 76 _ 66 80 elemW (.slice A l.length cap) l.length (wcs l) rfl (hcv2.alloc (.cells (wc c).toArray 76)) w2.heap.size (wc c) rfl hne2.out (fun j u hj => by rw [Addr.add_mid, Nat.zero_add]; exact box_cells w2 (wc c) _ j u hj) (fun u hu => wc_cells hu) (by unfold maxLen; omega) (by omega) (by simp) ?_; intro g3 cap3 w3 hown3 hg3 hat3; have c7w : w3.cell? ⟨d, 7, none⟩ = some (.slice A l.length cap) := hK7.out.1 w3 hg3; have f7w : w3.frozen? ⟨d, 7, none⟩ = false := hK7.out.2 w3 hg3)
  all_goals
    go_wp2
    go_end0
    exact ⟨rfl, HF.out _ _ _ hown3 hg3 (hat3.imp id fun e => by rw [e]; simp [World.drew])⟩
end
end Go.Proofs.YtgnpohkippegpaaGreat

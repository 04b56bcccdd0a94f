/-
  A value of many cells is laid into the midst of a block known whole. Nothing here speaks of one program.
-/
import Derived.Test.YtiljjgohmjimdaaBig
import Derived.Laws.CopyRow
namespace Go.Proofs.Ytiljjgohmjimdaa
open Go.RowKit
set_option linter.unusedVariables false

/-- a row with others laid over it from o on -/
def lay {α : Type} (cs : List α) (o : Nat) (vs : List α) : List α := cs.take o ++ vs ++ cs.drop (o + vs.length)
section
variable {α : Type} {cs vs : List α} {o : Nat}
theorem lay_length (h : o + vs.length ≤ cs.length) : (lay cs o vs).length = cs.length := by simp [lay]; omega
theorem lay_map {β : Type} (f : α → β) : lay (cs.map f) o (vs.map f) = (lay cs o vs).map f := by simp [lay]
theorem lay_low {k : Nat} (h : o + vs.length ≤ cs.length) (hk : k < o) : (lay cs o vs)[k]? = cs[k]? := by
  unfold lay
  rw [List.append_assoc, List.getElem?_append_left (by simp; omega), List.getElem?_take, if_pos hk]
theorem lay_in {k : Nat} (h : o + vs.length ≤ cs.length) (hk : k < vs.length) : (lay cs o vs)[o + k]? = vs[k]? := by
  unfold lay
  rw [List.append_assoc, List.getElem?_append_right (by simp; omega), List.getElem?_append_left (by simp; omega)]
  congr 1
  simp
  omega
theorem lay_high {k : Nat} (h : o + vs.length ≤ cs.length) (hk : o + vs.length ≤ k) : (lay cs o vs)[k]? = cs[k]? := by
  unfold lay
  rw [List.getElem?_append_right (by simp; omega), List.getElem?_drop]
  congr 1
  simp
  omega
theorem lay_self (h : o + vs.length ≤ cs.length) (hv : (cs.drop o).take vs.length = vs) : lay cs o vs = cs := by
  apply List.ext_getElem?
  intro k
  by_cases h1 : k < o
  · exact lay_low h h1
  · by_cases h2 : o + vs.length ≤ k
    · exact lay_high h h2
    · have e : k = o + (k - o) := by omega
      rw [e, lay_in h (by omega)]
      conv => lhs; rw [← hv]
      rw [List.getElem?_take, if_pos (by omega), List.getElem?_drop]
/-- one element turned in what is laid over -/
theorem lay_set {j : Nat} {x : α} (h : o + vs.length ≤ cs.length) (hv : (cs.drop o).take vs.length = vs) (hj : j < vs.length) : lay cs o (vs.set j x) = cs.set (o + j) x := by
  have hl : (vs.set j x).length = vs.length := by simp
  apply List.ext_getElem?
  intro k
  by_cases h1 : k < o
  · rw [lay_low (by omega) h1, List.getElem?_set_ne (by omega)]
  · by_cases h2 : o + vs.length ≤ k
    · rw [lay_high (by omega) (by omega), List.getElem?_set_ne (by omega)]
    · obtain ⟨i, rfl⟩ : ∃ i, k = o + i := ⟨k - o, by omega⟩
      rw [lay_in (by omega) (by omega)]
      by_cases hji : j = i
      · subst hji
        rw [List.getElem?_set_self hj, List.getElem?_set_self (by omega)]
      · rw [List.getElem?_set_ne hji, List.getElem?_set_ne (by omega)]
        conv => lhs; rw [← hv]
        rw [List.getElem?_take, if_pos (by omega), List.getElem?_drop]
end
section
variable {P : Program} (w : World)
theorem mid_heap {g off : Nat} {T : TypeId} {cs vs : List Value} (hb : Box w g T cs) (h1 : ∀ u ∈ vs, u.oneCell' = true) (hl : off + vs.length ≤ cs.length) :
    (storeCells ⟨g, off, none⟩ vs 0).run P w = .ok () (w.setRow g (lay cs off vs).toArray) := by
  have := run_storeCells_at (P := P) g off T vs 0 cs.toArray w hb (by simpa using hl) h1
  simpa [lay] using this
theorem mid_setRow {g : Nat} {T : TypeId} {cs cs' : List Value} (hb : Box w g T cs) : Box (w.setRow g cs'.toArray) g T cs' ∧ w.grownBy (w.setRow g cs'.toArray) (some g) ∧ (w.setRow g cs'.toArray).heap.size = w.heap.size :=
  ⟨setRow_heap w g _ _ _ _ hb, ⟨rfl, rfl, rfl, by simp [World.setRow], fun k _ hk => setRow_other w g k _ (by intro e; exact hk (by rw [e]))⟩, by simp [World.setRow]⟩
/-- a value of many cells is laid into the midst of a block -/
theorem wpList_store_midbox {ops : Array Oper} {rest : List Oper} {o : Oper} {a : Act} {Q : Exit → Act → World → Prop} (hgd : o.guard = none) (t : TypeId) (x y : Operand) (ho : o.op = .store t x y) (g off : Nat) (T : TypeId) (cs vs : List Value)
    (hsz : (P.info? t).map (·.size) = some vs.length) (hl : off + vs.length ≤ cs.length) (h1 : ∀ u ∈ vs, u.oneCell' = true) (hx : a.eval x = .pointer (some ⟨g, off, none⟩)) (hy : a.eval y = .agg vs.toArray) (hb : Box w g T cs)
    (h : ∀ w', Box w' g T (lay cs off vs) → w.grownBy w' (some g) → w'.heap.size = w.heap.size → wpList P ops Q rest (a.put o.dst undef) w') : wpList P ops Q (o :: rest) a w := by
  refine wpList_plain hgd fun K hK => ?_
  have hm := mid_heap (P := P) w hb h1 hl
  have hr : (storeVar t ⟨g, off, none⟩ (.agg vs.toArray)).run P w = .ok () (w.setRow g (lay cs off vs).toArray) := by
    cases hq : P.info? t with
    | none => simp [hq] at hsz
    | some i =>
      have hs : i.size = vs.length := by simpa [hq] using hsz
      simpa [storeVar, sizeOf, typeInfo, hq, Value.cells, hs] using hm
  unfold Oper.wp execOp
  simp only [ho, hx, hy, Instr.storeAt, Instr.sureAddr, Sem.run_bind, Sem.run_pure, Result.andThen_ok, hr]
  obtain ⟨r1, r2, r3⟩ := mid_setRow (cs' := lay cs off vs) w hb
  exact hK _ _ (h _ r1 r2 r3)
/-- 'clear' of a slice over a whole block of one-cell elements -/
theorem wpList_clear_box {ops : Array Oper} {rest : List Oper} {o : Oper} {a : Act} {Q : Exit → Act → World → Prop} (hgd : o.guard = none) (x : Operand) (t e : TypeId) (ho : o.op = .call { callee := .builtin .clear, args := #[x], argTypes := #[t] })
    (ht : P.underlying t = some (.slice e)) (z : Value) (hz : ∀ w, (zeroValue e).run P w = .ok z w) (hz1 : z.cells = #[z]) (hz2 : z.oneCell' = true) (g n : Nat) (T : TypeId) (cs : List Value) (hx : a.eval x = .slice (some ⟨g, 0, none⟩) n n) (hl : cs.length = n) (hb : Box w g T cs)
    (h : ∀ w', Box w' g T (List.replicate n z) → w.grownBy w' (some g) → w'.heap.size = w.heap.size → wpList P ops Q rest (a.put o.dst (.tuple #[])) w') : wpList P ops Q (o :: rest) a w := by
  refine wpList_plain hgd fun K hK => ?_
  have hzc : ∀ m, (Builtin.zeroCells #[z] m).toList = List.replicate m z := by
    intro m
    apply List.ext_getElem?
    intro i
    by_cases hi : i < m
    · simp [Builtin.zeroCells, hi, Nat.mod_one]
    · simp [Builtin.zeroCells, hi]
  by_cases h0 : n = 0
  · subst h0
    obtain rfl : cs = [] := List.eq_nil_of_length_eq_zero hl
    have hr : (Builtin.clear_ #[t] o.type #[.slice (some ⟨g, 0, none⟩) 0 0]).run P w = .ok (.tuple #[]) w := by
      simp [Builtin.clear_, run_underlying ht]
    unfold Oper.wp execOp
    simp only [ho, resolve, invoke, builtin, Sem.run_bind, Sem.run_pure, Result.andThen_ok, List.map_toArray, List.map_cons, List.map_nil, hx, hr]
    exact hK _ _ (h _ hb (World.grownBy.refl w _) rfl)
  · have hm := mid_heap (P := P) w (off := 0) (vs := List.replicate n z) hb (by intro u hu; rw [List.eq_of_mem_replicate hu]; exact hz2) (by simp; omega)
    have hlay : lay cs 0 (List.replicate n z) = List.replicate n z := by
      unfold lay
      rw [List.drop_eq_nil_of_le (by simp; omega)]
      simp
    rw [hlay] at hm
    obtain ⟨n', rfl⟩ : ∃ n', n = n' + 1 := ⟨n - 1, by omega⟩
    have hr : (Builtin.clear_ #[t] o.type #[.slice (some ⟨g, 0, none⟩) (n' + 1) (n' + 1)]).run P w = .ok (.tuple #[]) (w.setRow g (List.replicate (n' + 1) z).toArray) := by
      have e : (Builtin.zeroCells #[z] (n' + 1)).toList = List.replicate (n' + 1) z := hzc _
      simp [Builtin.clear_, hm, run_underlying ht, hz, hz1, e]
    unfold Oper.wp execOp
    simp only [ho, resolve, invoke, builtin, Sem.run_bind, Sem.run_pure, Result.andThen_ok, List.map_toArray, List.map_cons, List.map_nil, hx, hr]
    obtain ⟨r1, r2, r3⟩ := mid_setRow (cs' := List.replicate (n' + 1) z) w hb
    exact hK _ _ (h _ r1 r2 r3)
end
end Go.Proofs.Ytiljjgohmjimdaa

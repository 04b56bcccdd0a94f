/-
  Sectors (pages of 64 bytes) as blocks known whole: made, read, laid, compared.
-/
import Derived.Test.YtoehflalpidhfaaBig
import Derived.Test.YtoehflalpidhfaaBytes
import Derived.Laws.StructEq
namespace Go.Proofs.Ytoehflalpidhfaa
open Go.RowKit Word
set_option linter.unusedVariables false

theorem Box.on {w w' : World} {b : Nat} {T : TypeId} {cs : List Value} (h : Box w b T cs) (hb : Below w.heap.size w w') : Box w' b T cs := h.below hb h.lt
abbrev pg0 : List Int := List.replicate 64 0
theorem size_u8 (w : World) : (sizeOf 5).run Try.prog w = .ok 1 w := by go_simp
theorem pg_zero (w : World) : (zeroValue 28).run Try.prog w = .ok (.agg (bs pg0).toArray) w :=
  (zero_of_info (P := Try.prog) (t := 28) (v := .agg (bs pg0).toArray) (n := 64) (by kernel_rfl)).1 w
theorem pg_build (w : World) : (Instr.build 28 #[]).run Try.prog w = .ok (.agg (bs pg0).toArray) w := by
  unfold Instr.build
  simp only [Sem.run_bind, pg_zero w, Result.andThen, run_underlying Try.underlying28, size_u8]
  rfl
theorem pg_equal (w : World) (xs ys : List Int) (hx : xs.length = 64) (hy : ys.length = 64) : (Op.equalIn 10000 28 (.agg (bs xs).toArray) (.agg (bs ys).toArray)).run Try.prog w = .ok (xs == ys) w :=
  big_equal w 9998 _ _ 64 .u8 Try.underlying28 Try.underlying5 size_u8 xs ys hx hy
theorem pg_guard : Try.prog.eqGuardType Try.prog.depth 28 = false := by kernel_rfl
theorem pg_size {p : List Int} (hp : p.length = 64) : (Try.prog.info? 28).map (·.size) = some (bs p).length := by rw [bs_length, hp]; kernel_rfl
section
variable {w : World} {ops : Array Oper} {rest : List Oper} {o : Oper} {a : Act} {Q : Exit → Act → World → Prop}
theorem wpList_pg_load (hgd : o.guard = none) (x : Operand) (ho : o.op = .load 28 x) (g : Nat) (p : List Int) (hp : p.length = 64) (hx : a.eval x = .pointer (some ⟨g, 0, none⟩)) (hb : Box w g 28 (bs p))
    (h : wpList Try.prog ops Q rest (a.put o.dst (.agg (bs p).toArray)) w) : wpList Try.prog ops Q (o :: rest) a w :=
  wpList_load_box w hgd _ x ho g 0 (bs p) _ Try.underlying28 rfl (pg_size hp) hx hb.range0 h
theorem wpList_pg_store (hgd : o.guard = none) (x y : Operand) (ho : o.op = .store 28 x y) (g : Nat) (p old : List Int) (hp : p.length = 64) (hold : old.length = 64) (hx : a.eval x = .pointer (some ⟨g, 0, none⟩)) (hy : a.eval y = .agg (bs p).toArray) (hb : Box w g 28 (bs old))
    (h : ∀ w', Box w' g 28 (bs p) → w.grownBy w' (some g) → w'.heap.size = w.heap.size → wpList Try.prog ops Q rest (a.put o.dst undef) w') : wpList Try.prog ops Q (o :: rest) a w :=
  wpList_store_box w hgd _ x y ho g (bs p) (bs old) (pg_size hp) (by rw [bs_length, bs_length, hp, hold]) (fun u hu => bs_one _ _ hu) hx hy hb
    (h _ (setRow_heap w g _ _ _ _ hb) ⟨rfl, rfl, rfl, by simp [World.setRow], fun k _ hk => setRow_other w g k _ (by intro e; exact hk (by rw [e]))⟩ (by simp [World.setRow]))
theorem wpList_pg_alloc (hgd : o.guard = none) (ho : o.op = .alloc 28)
    (h : ∀ w', Box w' w.heap.size 28 (bs pg0) → Below w.heap.size w w' → w'.heap.size = w.heap.size + 1 → wpList Try.prog ops Q rest (a.put o.dst (.pointer (some ⟨w.heap.size, 0, none⟩))) w') : wpList Try.prog ops Q (o :: rest) a w :=
  wpList_alloc_box w hgd _ ho (bs pg0) pg_zero h
theorem wpList_pg_box (hgd : o.guard = none) (x : Operand) (ho : o.op = .box 28 x) (p : List Int) (hx : a.eval x = .agg (bs p).toArray)
    (h : ∀ w', Box w' w.heap.size 28 (bs p) → Below w.heap.size w w' → w'.heap.size = w.heap.size + 1 → wpList Try.prog ops Q rest (a.put o.dst (.pointer (some ⟨w.heap.size, 0, none⟩))) w') : wpList Try.prog ops Q (o :: rest) a w :=
  wpList_box_box w hgd _ x ho (bs p) hx h
end
end Go.Proofs.Ytoehflalpidhfaa

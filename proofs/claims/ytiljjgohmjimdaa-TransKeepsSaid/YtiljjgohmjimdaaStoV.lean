/-
  Steps of walks over rows and variables of whatever size: append that tells its block, a slice of one element, a variable laid, 'clear'. Nothing here speaks of one program.
-/
import Derived.Test.YtiljjgohmjimdaaBig
import Derived.Test.YtiljjgohmjimdaaStepA
namespace Go.Proofs.Ytiljjgohmjimdaa
open Go.RowKit
set_option linter.unusedVariables false

section
variable {P : Program} (w : World)
/-- append of one element of many cells, the row's block told -/
theorem wpList_append_tell {ops : Array Oper} {rest : List Oper} {o : Oper} {a : Act} {Q : Exit → Act → World → Prop} (hgd : o.guard = none) (s x : Operand) (t : TypeId)
    (ho : o.op = .call { callee := .builtin .append, args := #[s, x], argTypes := #[t, t] })
    (base : Nat) (e : TypeId) (z : Value) (size bytes : Nat) (he : Elem P t e z size bytes)
    (v : Value) (n : Nat) (xs : List Value) (hs : a.eval s = v) (us : List Value) (hx : a.eval x = .slice (some ⟨w.heap.size, 0, none⟩) 1 1) (hown : w.ownsRow base e size v n xs) (hus : us.length = size) (h1 : ∀ u ∈ us, u.oneCell' = true)
    (h63 : n + 1 ≤ maxLen) (hbytes : (n + 1) * bytes ≤ 140737488355328) (hbase : base ≤ w.heap.size)
    (h : ∀ v' w', w'.ownsRow base e size v' (n + 1) (xs ++ us) → w.grownBy w' v.ownBlock → (∀ b, b < w.heap.size → v.ownBlock ≠ some b → v'.ownBlock ≠ some b) → wpList P ops Q rest (a.put o.dst v') w') : wpList P ops Q (o :: rest) a (w.alloc (.cells us.toArray e)) := by
  refine wpList_append_rd _ hgd s x t ho base e z size bytes he v n xs hs (hown.alloc _) _ _ 1 1 us hx (by omega) (rd_new w us e (0, 0)) h1 h63 hbytes (by simp; omega) ?_
  intro v' w' h2 h3 h4
  refine h v' w' h2 ((World.grownBy_alloc w _ _).trans h3) fun b hb hne he => ?_
  rcases h4 with h4 | h4
  · exact hne (h4.symm.trans he)
  · rw [h4] at he
    injection he with he
    simp at he
    omega
/-- one element of many cells in a block of its own -/
theorem wpList_slice_one {ops : Array Oper} {rest : List Oper} {o : Oper} {a : Act} {Q : Exit → Act → World → Prop} (hgd : o.guard = none) (t e : TypeId) (x : Operand) (ho : o.op = .buildSlice t 1 #[(0, x)]) (z : Value) (size bytes : Nat) (he : Elem P t e z size bytes) (hs : size ≤ 1000) (L : List Value) (hL : L.length = size) (hx : a.eval x = .agg L.toArray)
    (h : wpList P ops Q rest (a.put o.dst (.slice (some ⟨w.heap.size, 0, none⟩) 1 1)) (w.alloc (.cells L.toArray e))) : wpList P ops Q (o :: rest) a w := by
  refine wpList_plain hgd fun K hK => ?_
  have hr := run_buildSlice_one (P := P) w he hs L hL
  unfold Oper.wp
  simp [execOp, ho, hx, hr, Result.andThen]
  exact hK _ _ h
theorem wpList_store_var {ops : Array Oper} {rest : List Oper} {o : Oper} {a : Act} {Q : Exit → Act → World → Prop} (hgd : o.guard = none) (t : TypeId) (x y : Operand) (ho : o.op = .store t x y) (g : Nat) (cs old : List Value) (hsz : (P.info? t).map (·.size) = some cs.length) (hold : old.length = cs.length)
    (h1 : ∀ u ∈ cs, u.oneCell' = true) (hx : a.eval x = .pointer (some ⟨g, 0, none⟩)) (hy : a.eval y = .agg cs.toArray) (hb : Box w g t old)
    (h : ∀ w', Box w' g t cs → w.grownBy w' (some g) → wpList P ops Q rest (a.put o.dst undef) w') : wpList P ops Q (o :: rest) a w :=
  wpList_store_box w hgd t x y ho g cs old hsz hold h1 hx hy hb (h _ (setRow_heap w g _ _ _ _ hb) ⟨rfl, rfl, rfl, by simp [World.setRow], fun k _ hk => setRow_other w g k _ (by intro e; exact hk (by rw [e]))⟩)
/-- a value is laid into its variable, at a step of a region that draws its order -/
theorem step_store_box {ops : Array Oper} {o : Oper} {a : Act} {K : Act → World → Prop} {Q : Exit → Act → World → Prop} {E : Prop} (hgd : o.guard = none) (t : TypeId) (x y : Operand) (ho : o.op = .store t x y) (g : Nat) (cs old : List Value) (hsz : (P.info? t).map (·.size) = some cs.length) (hold : old.length = cs.length)
    (h1 : ∀ u ∈ cs, u.oneCell' = true) (hx : a.eval x = .pointer (some ⟨g, 0, none⟩)) (hy : a.eval y = .agg cs.toArray) (hb : Box w g t old) (h : ∀ w', Box w' g t cs → w.grownBy w' (some g) → K (a.put o.dst undef) w') :
    if Region.wanted o (yielded ops a.tmps) = true then Oper.wp P o a w K Q else E := by
  have hw : Region.wanted o (yielded ops a.tmps) = true := by simp [Region.wanted, hgd]
  rw [if_pos hw]
  have hrun := run_storeVar_row (P := P) w g t t old.toArray cs.toArray hb (by simpa using hsz) (by simp [hold]) (all_oneCell_toArray h1)
  have hK := h (w.setRow g cs.toArray) (setRow_heap w g _ _ _ _ hb) ⟨rfl, rfl, rfl, by simp [World.setRow], fun k _ hk => setRow_other w g k _ (by intro e; exact hk (by rw [e]))⟩
  unfold Oper.wp execOp
  simp only [ho, hx, hy, Instr.storeAt, Instr.sureAddr, Sem.run_bind, Sem.run_pure, Result.andThen_ok, hrun]
  exact hK
/-- 'clear' of a row of the call's own, of elements of whatever size -/
theorem wpList_clear_row {ops : Array Oper} {rest : List Oper} {o : Oper} {a : Act} {Q : Exit → Act → World → Prop} (hgd : o.guard = none) (x : Operand) (t e : TypeId) (ho : o.op = .call { callee := .builtin .clear, args := #[x], argTypes := #[t] })
    (ht : P.underlying t = some (.slice e)) (z : Value) (hz : ∀ w, (zeroValue e).run P w = .ok z w) (size : Nat) (hzs : z.cells.size = size) (hs0 : 0 < size) (hz1 : ∀ u ∈ z.cells.toList, u.oneCell' = true) (base n c : Nat) (A : Option Addr) (xs : List Value) (hx : a.eval x = .slice A n c)
    (hown : w.ownsRow base e size (.slice A n c) n xs)
    (h : ∀ w', w'.ownsRow base e size (.slice A 0 c) 0 [] → w.grownBy w' (Value.slice A n c).ownBlock → wpList P ops Q rest (a.put o.dst (.tuple #[])) w') : wpList P ops Q (o :: rest) a w := by
  refine wpList_plain hgd fun K hK => ?_
  have hrun : ∃ w', (Builtin.clear_ #[t] o.type #[.slice A n c]).run P w = .ok (.tuple #[]) w' ∧ w'.ownsRow base e size (.slice A 0 c) 0 [] ∧ w.grownBy w' (Value.slice A n c).ownBlock := by
    rcases hown.2 with ⟨hv, h0⟩ | ⟨g, cap, cur, hv, hgb, hheap, hnc, hcm, hcs, htk⟩
    · injection hv with a b c'
      subst a b c'
      exact ⟨w, by simp [Builtin.clear_, run_underlying ht], World.ownsRow_nil _ _ _ _, World.grownBy.refl w _⟩
    · injection hv with a b c'
      subst a c'
      rcases Nat.eq_zero_or_pos n with h0 | h0
      · subst h0
        exact ⟨w, by simp [Builtin.clear_, run_underlying ht], ⟨by simp, .inr ⟨g, c, cur, rfl, hgb, hheap, by omega, hcm, hcs, by simp⟩⟩, World.grownBy.refl w _⟩
      · have hzl : (Builtin.zeroCells z.cells n).toList.length = n * size := by simp [Builtin.zeroCells, hzs]
        have hz2 : ∀ u ∈ (Builtin.zeroCells z.cells n).toList, u.oneCell' = true := by
          intro u hu
          simp only [Builtin.zeroCells, Array.toList_map, List.mem_map] at hu
          obtain ⟨i, _, rfl⟩ := hu
          have hi : i % z.cells.size < z.cells.size := Nat.mod_lt _ (by omega)
          rw [getElem!_pos z.cells _ hi]
          exact hz1 _ (by simp)
        have hst := run_storeCells_at (P := P) g 0 e (Builtin.zeroCells z.cells n).toList 0 cur w hheap (by rw [hzl, hcs]; simpa using Nat.mul_le_mul_right size hnc) hz2
        obtain ⟨m, rfl⟩ : ∃ m, n = m + 1 := ⟨n - 1, by omega⟩
        refine ⟨_, by simp [Builtin.clear_, run_underlying ht, hz, hst]; rfl, ?_, ?_⟩
        · refine ⟨by simp, .inr ⟨g, c, _, rfl, hgb, setRow_heap w g _ _ _ _ hheap, by omega, hcm, ?_, by simp⟩⟩
          have hmul := Nat.mul_le_mul_right size hnc
          rw [Array.length_toList] at hzl
          simp only [List.size_toArray, List.length_append, List.length_drop, Array.length_toList, hzl, hcs]
          omega
        · exact ⟨rfl, rfl, rfl, by simp [World.setRow], fun k _ hk => setRow_other w g k _ (by intro e; exact hk (by rw [e]; rfl))⟩
  obtain ⟨w', hr, h1, h2⟩ := hrun
  unfold Oper.wp execOp
  simp only [ho, resolve, invoke, builtin, Sem.run_bind, Sem.run_pure, Result.andThen_ok, List.map_toArray, List.map_cons, List.map_nil, hx, hr]
  exact hK _ _ (h w' h1 h2)
end
end Go.Proofs.Ytiljjgohmjimdaa

/-
  Leaves as blocks known whole: made, read, laid, compared.
-/
import Derived.Test.YtcligeajgbibnaaBig
import Derived.Laws.StructEq
import Derived.Test.YtcligeajgbibnaaProg
namespace Go.Proofs.Ytcligeajgbibnaa
open Go.RowKit
set_option linter.unusedVariables false

namespace Leaf
structure Lf where
  gen : Int
  index : Int
  places : List Int
abbrev z10 : List Int := List.replicate 10 0
abbrev lf0 : Lf := ⟨0, 0, z10⟩
/-- a leaf has ten places -/
def In (l : Lf) : Prop := l.places.length = 10
theorem lf0_in : In lf0 := by simp [In]
end Leaf
open Leaf

/-- ints in cells -/
def is (zs : List Int) : List Value := zs.map (Value.int .i64)
theorem is_length (zs : List Int) : (is zs).length = zs.length := by simp [is]
theorem is_get {zs : List Int} {k : Nat} (h : k < zs.length) : (is zs)[k]? = some (.int .i64 (zs.getD k 0)) := by simp [is, h]
theorem is_one (zs : List Int) : ∀ u ∈ is zs, u.oneCell' = true := ints_oneCell .i64 zs
theorem is_set (zs : List Int) (j : Nat) (x : Int) : is (zs.set j x) = (is zs).set j (.int .i64 x) := by simp [is, List.map_set]
theorem is_inj {xs ys : List Int} (h : is xs = is ys) : xs = ys := by
  unfold is at h
  exact (List.map_inj_right (fun a b h => by injection h)).1 h
/-- an element of an array in hand -/
theorem run_index_is (w : World) (t e : TypeId) (n : Nat) (zs : List Int) (k : Nat) (ht : Try.prog.underlying t = some (.array n e)) (he : Try.prog.underlying e = some (.int .i64)) (hsz : ∀ w, (sizeOf e).run Try.prog w = .ok 1 w) (hl : zs.length = n) (hk : k < n) :
    (Instr.index t (.agg (is zs).toArray) (.int .i64 k)).run Try.prog w = .ok (.int .i64 (zs.getD k 0)) w := by
  have h1 : (is zs)[k]? = some (.int .i64 (zs.getD k 0)) := is_get (by omega)
  have h2 : (isAgg e).run Try.prog w = .ok false w := by simp [isAgg, run_underlying he]
  generalize zs.getD k 0 = x at h1 ⊢
  generalize is zs = cs at h1 ⊢
  simp [Instr.index, run_underlying ht, asIntOf, go_sem, hsz, part, h1, h2, hk]

/-- a leaf's cells -/
def lcs (l : Lf) : List Value := .int .i64 l.gen :: .int .i64 l.index :: is l.places
theorem lcs_length {l : Lf} (h : In l) : (lcs l).length = 12 := by unfold In at h; simp [lcs, is_length, h]
theorem lcs_one (l : Lf) : ∀ u ∈ lcs l, u.oneCell' = true := by
  intro u hu
  simp only [lcs, List.mem_cons] at hu
  rcases hu with rfl | rfl | hu
  · rfl
  · rfl
  · exact is_one _ u hu
theorem lcs_inj {a b : Lf} (h : lcs a = lcs b) : a = b := by
  unfold lcs at h
  injection h with h0 h
  injection h with h1 h
  have h5 := is_inj h
  injection h0 with _ h0
  injection h1 with _ h1
  cases a; cases b; simp_all
theorem lcs_place (l : Lf) (k : Nat) : (lcs l)[2 + k]? = (is l.places)[k]? := by
  rw [show 2 + k = k + 1 + 1 by omega]
  rfl
theorem lcs_set (l : Lf) (k : Nat) (v : Int) : (lcs l).set (2 + k) (.int .i64 v) = lcs { l with places := l.places.set k v } := by
  rw [show 2 + k = k + 1 + 1 by omega]
  simp [lcs, is_set]
section
variable {w : World} {b : Nat} {T : TypeId} {l : Lf}
theorem Box.lf (h : Box w b T (lcs l)) : w.cell? ⟨b, 0, none⟩ = some (.int .i64 l.gen) ∧ w.cell? ⟨b, 1, none⟩ = some (.int .i64 l.index) := ⟨h.cell 0, h.cell 1⟩
theorem Box.lfPlace (h : Box w b T (lcs l)) {k : Nat} (hk : k < l.places.length) : w.cell? ⟨b, 2 + k, none⟩ = some (.int .i64 (l.places.getD k 0)) := (h.cell (2 + k)).trans ((lcs_place l k).trans (is_get hk))
theorem Box.lfPlaces (h : Box w b T (lcs l)) : w.rangeAt b 2 (is l.places) := h.range 2 _ fun j v hj => by
  rw [lcs_place]
  exact hj
end
theorem size_int (w : World) : (sizeOf 3).run Try.prog w = .ok 1 w := by go_simp
theorem guard_leaf : Try.prog.eqGuardType Try.prog.depth 50 = false := by kernel_rfl
theorem zero_leaf (w : World) : (zeroValue 50).run Try.prog w = .ok (.agg (lcs lf0).toArray) w :=
  (zero_of_info (P := Try.prog) (t := 50) (v := .agg (lcs lf0).toArray) (n := 12) (by kernel_rfl)).1 w
theorem zero_ten (w : World) : (zeroValue 48).run Try.prog w = .ok (.agg (is z10).toArray) w :=
  (zero_of_info (P := Try.prog) (t := 48) (v := .agg (is z10).toArray) (n := 10) (by kernel_rfl)).1 w
theorem lf_size {l : Lf} (h : In l) : (Try.prog.info? 50).map (·.size) = some (lcs l).length := by rw [lcs_length h]; kernel_rfl
section
variable {w : World} {ops : Array Oper} {rest : List Oper} {o : Oper} {a : Act} {Q : Exit → Act → World → Prop}
theorem wpList_lf_store (hgd : o.guard = none) (x y : Operand) (ho : o.op = .store 50 x y) (g : Nat) (r old : Lf) (hr : In r) (hold : In old) (hx : a.eval x = .pointer (some ⟨g, 0, none⟩)) (hy : a.eval y = .agg (lcs r).toArray) (hb : Box w g 50 (lcs old))
    (h : ∀ w', Box w' g 50 (lcs r) → w.grownBy w' (some g) → w'.heap.size = w.heap.size → wpList Try.prog ops Q rest (a.put o.dst undef) w') : wpList Try.prog ops Q (o :: rest) a w :=
  wpList_store_box w hgd _ x y ho g (lcs r) (lcs old) (lf_size hr) (by rw [lcs_length hr, lcs_length hold]) (lcs_one r) hx hy hb
    (h _ (setRow_heap w g _ _ _ _ hb) ⟨rfl, rfl, rfl, by simp [World.setRow], fun k _ hk => setRow_other w g k _ (by intro e; exact hk (by rw [e]))⟩ (by simp [World.setRow]))
theorem wpList_lf_alloc (hgd : o.guard = none) (ho : o.op = .alloc 50)
    (h : ∀ w', Box w' w.heap.size 50 (lcs lf0) → Below w.heap.size w w' → w'.heap.size = w.heap.size + 1 → wpList Try.prog ops Q rest (a.put o.dst (.pointer (some ⟨w.heap.size, 0, none⟩))) w') : wpList Try.prog ops Q (o :: rest) a w :=
  wpList_alloc_box w hgd _ ho (lcs lf0) zero_leaf h
theorem wpList_lf_box (hgd : o.guard = none) (x : Operand) (ho : o.op = .box 50 x) (r : Lf) (hx : a.eval x = .agg (lcs r).toArray)
    (h : ∀ w', Box w' w.heap.size 50 (lcs r) → Below w.heap.size w w' → w'.heap.size = w.heap.size + 1 → wpList Try.prog ops Q rest (a.put o.dst (.pointer (some ⟨w.heap.size, 0, none⟩))) w') : wpList Try.prog ops Q (o :: rest) a w :=
  wpList_box_box w hgd _ x ho (lcs r) hx h
theorem wpList_ten_box (hgd : o.guard = none) (x : Operand) (ho : o.op = .box 48 x) (zs : List Int) (hx : a.eval x = .agg (is zs).toArray)
    (h : ∀ w', Box w' w.heap.size 48 (is zs) → Below w.heap.size w w' → w'.heap.size = w.heap.size + 1 → wpList Try.prog ops Q rest (a.put o.dst (.pointer (some ⟨w.heap.size, 0, none⟩))) w') : wpList Try.prog ops Q (o :: rest) a w :=
  wpList_box_box w hgd _ x ho (is zs) hx h
end
/-- two leaves are compared -/
def lfEq (a b : Lf) : Bool := a.gen == b.gen && (a.index == b.index && a.places == b.places)
theorem lfEq_iff (a b : Lf) : lfEq a b = true ↔ a = b := by
  cases a; cases b; simp [lfEq]
theorem part_ten (a : Lf) (ha : In a) (w : World) : (part 48 (lcs a).toArray 2).run Try.prog w = .ok (.agg (is a.places).toArray) w := by
  obtain ⟨m, hm, hsz⟩ := big_size (P := Try.prog) (t := 48) (s := 10) (by kernel_rfl)
  have e : List.take m (List.drop 2 (lcs a)) = is a.places := by
    show List.take m (is a.places) = is a.places
    exact List.take_of_length_le (by unfold In at ha; rw [is_length, ha, hm]; decide)
  simp [part, isAgg, run_underlying Try.underlying48, hsz, e]
theorem equal_leaf (w : World) (a b : Lf) (ha : In a) (hb : In b) : (Op.equalIn 10000 50 (.agg (lcs a).toArray) (.agg (lcs b).toArray)).run Try.prog w = .ok (lfEq a b) w := by
  have hD : ∀ w', (Op.equalIn 9999 48 (.agg (is a.places).toArray) (.agg (is b.places).toArray)).run Try.prog w' = .ok (a.places == b.places) w' := fun w' => big_equal (P := Try.prog) w' 9997 48 _ 10 .i64 Try.underlying48 Try.underlying3 size_int a.places b.places ha hb
  have pa := fun w' => part_ten a ha w'
  have pb := fun w' => part_ten b hb w'
  have hI : ∀ (r : Lf) (k : Nat) (v : Int) (w' : World), (lcs r).toArray[k]? = some (.int .i64 v) → (part 3 (lcs r).toArray k).run Try.prog w' = .ok (.int .i64 v) w' := fun r k v w' h => by
    simp [part, isAgg, run_underlying Try.underlying3, h]
  have a0 := fun w' => hI a 0 a.gen w' rfl
  have a1 := fun w' => hI a 1 a.index w' rfl
  have b0 := fun w' => hI b 0 b.gen w' rfl
  have b1 := fun w' => hI b 1 b.index w' rfl
  rw [run_equalIn_agg _ _ _ _ _ (by kernel_rfl) (by kernel_rfl)]
  have hi := fun (x y : Int) (w' : World) => run_equalIn_int (P := Try.prog) w' 9998 3 .i64 .i64 x y Try.underlying3
  clear hI
  generalize lcs a = ra at *
  generalize lcs b = rb at *
  simp only [Op.eqFields, Program.fieldsOf, Try.underlying50]
  simp [a0, a1, b0, b1, pa, pb, hD, hi]
  unfold lfEq
  by_cases h0 : a.gen = b.gen <;> by_cases h1 : a.index = b.index <;> by_cases h5 : a.places = b.places <;> simp [h0, h1, h5]

/-! a leaf is built of its parts -/
theorem leaf_places (w : World) : (Array.mapM (fun f : Field => (do pure (f.offset, ← sizeOf f.type) : Sem (Nat × Nat))) (Try.prog.fieldsOf 50)).run Try.prog w = .ok #[(0, 1), (1, 1), (2, 10)] w := by
  have h3 : ∀ w : World, (sizeOf 3).run Try.prog w = .ok 1 w := by intro w; go_simp
  have h23 : ∀ w : World, (sizeOf 48).run Try.prog w = .ok 10 w := by intro w; go_simp
  simp only [Program.fieldsOf, Try.underlying50]
  simp only [List.mapM_toArray, List.mapM_cons, List.mapM_nil, Sem.run_bind, Sem.run_pure, h3, h23, Result.andThen, Sem.run_map]
theorem run_build_leaf2 (w : World) (g i : Int) :
    (Instr.build 50 #[(0, .int .i64 g), (1, .int .i64 i)]).run Try.prog w = .ok (.agg (lcs ⟨g, i, z10⟩).toArray) w := by
  have hp := leaf_places w
  simp only [Program.fieldsOf, Try.underlying50] at hp
  unfold Instr.build
  simp only [Sem.run_bind, zero_leaf w, Result.andThen, run_underlying Try.underlying50, hp]
  have e : Instr.fill (fun x => #[((0, 1) : Nat × Nat), (1, 1), (2, 10)][x]?) (Value.agg (lcs lf0).toArray).cells [(0, .int .i64 g), (1, .int .i64 i)] = some (lcs ⟨g, i, z10⟩).toArray := by
    refine (fill_int _ [] _ _ _ _ 0 0 _ rfl rfl).trans ?_
    exact (fill_int _ [_] _ _ _ _ 1 1 _ rfl rfl).trans rfl
  rw [e]
  rfl
theorem run_build_leaf3 (w : World) (l : Lf) (h : In l) :
    (Instr.build 50 #[(0, .int .i64 l.gen), (1, .int .i64 l.index), (2, .agg (is l.places).toArray)]).run Try.prog w = .ok (.agg (lcs l).toArray) w := by
  have hp := leaf_places w
  simp only [Program.fieldsOf, Try.underlying50] at hp
  unfold Instr.build
  simp only [Sem.run_bind, zero_leaf w, Result.andThen, run_underlying Try.underlying50, hp]
  have e : Instr.fill (fun x => #[((0, 1) : Nat × Nat), (1, 1), (2, 10)][x]?) (Value.agg (lcs lf0).toArray).cells [(0, .int .i64 l.gen), (1, .int .i64 l.index), (2, .agg (is l.places).toArray)] = some (lcs l).toArray := by
    unfold In at h
    refine (fill_int _ [] _ _ _ _ 0 0 _ rfl rfl).trans ?_
    refine (fill_int _ [_] _ _ _ _ 1 1 _ rfl rfl).trans ?_
    exact fill_end _ [_, _] (is z10) (is l.places) 2 2 (by rw [is_length, h]; rfl) rfl (by rw [is_length, is_length, h]; rfl)
  rw [e]
  rfl
theorem run_build_leaf0 (w : World) : (Instr.build 50 #[]).run Try.prog w = .ok (.agg (lcs lf0).toArray) w := by
  have hp := leaf_places w
  simp only [Program.fieldsOf, Try.underlying50] at hp
  unfold Instr.build
  simp only [Sem.run_bind, zero_leaf w, Result.andThen, run_underlying Try.underlying50, hp]
  rfl
theorem run_build_ten1 (w : World) (x : Int) : (Instr.build 48 #[(0, .int .i64 x)]).run Try.prog w = .ok (.agg (is (x :: List.replicate 9 0)).toArray) w := by
  unfold Instr.build
  simp only [Sem.run_bind, zero_ten w, Result.andThen, run_underlying Try.underlying48, size_int]
  rfl
section
variable {w : World} {ops : Array Oper} {rest : List Oper} {o : Oper} {a : Act} {Q : Exit → Act → World → Prop}
theorem wpList_lf_zero (hgd : o.guard = none) (ho : o.op = .build 50 #[]) (h : wpList Try.prog ops Q rest (a.put o.dst (.agg (lcs lf0).toArray)) w) : wpList Try.prog ops Q (o :: rest) a w := by
  refine wpList_plain hgd fun K hK => ?_
  unfold Oper.wp
  simp [execOp, ho, run_build_leaf0 w, Result.andThen]
  exact hK _ _ h
theorem wpList_lf_build2 (hgd : o.guard = none) (x0 x1 : Operand) (ho : o.op = .build 50 #[(0, x0), (1, x1)]) (g i : Int) (h0 : a.eval x0 = .int .i64 g) (h1 : a.eval x1 = .int .i64 i)
    (h : wpList Try.prog ops Q rest (a.put o.dst (.agg (lcs ⟨g, i, z10⟩).toArray)) w) : wpList Try.prog ops Q (o :: rest) a w := by
  refine wpList_plain hgd fun K hK => ?_
  unfold Oper.wp
  simp [execOp, ho, h0, h1, run_build_leaf2 w g i, Result.andThen]
  exact hK _ _ h
end
end Go.Proofs.Ytcligeajgbibnaa

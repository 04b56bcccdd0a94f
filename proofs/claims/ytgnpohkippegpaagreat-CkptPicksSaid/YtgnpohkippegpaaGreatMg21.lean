/-
  Lf0 LfM
-/
import Derived.Test.YtgnpohkippegpaaGreatMg05
import Derived.Laws.StructEq
import Derived.Test.YtgnpohkippegpaaGreatProg
import Derived.Test.YtgnpohkippegpaaGreatMg20
/-
  Leaves as blocks known whole: made, read, laid, compared.
-/
namespace Go.Proofs.YtgnpohkippegpaaGreat
open Go.RowKit
set_option linter.unusedVariables false

namespace Leaf
structure Lf where
  gen : Int
  index : Int
  places : List Int
abbrev z10 : List Int := List.replicate 10 0
abbrev lf0 : Lf := ⟨0, 0, z10⟩
/-- a leaf has ten places -/
def In (l : Lf) : Prop := l.places.length = 10
theorem lf0_in : In lf0 := by simp [In]
end Leaf
open Leaf

/-- ints in cells -/
def is (zs : List Int) : List Value := zs.map (Value.int .i64)
theorem is_length (zs : List Int) : (is zs).length = zs.length := by simp [is]
theorem is_get {zs : List Int} {k : Nat} (h : k < zs.length) : (is zs)[k]? = some (.int .i64 (zs.getD k 0)) := by simp [is, h]
theorem is_one (zs : List Int) : ∀ u ∈ is zs, u.oneCell' = true := ints_oneCell .i64 zs
theorem is_set (zs : List Int) (j : Nat) (x : Int) : is (zs.set j x) = (is zs).set j (.int .i64 x) := by simp [is, List.map_set]
theorem is_inj {xs ys : List Int} (h : is xs = is ys) : xs = ys := by
  unfold is at h
  exact (List.map_inj_right (fun a b h => by injection h)).1 h
/-- an element of an array in hand -/
theorem run_index_is (w : World) (t e : TypeId) (n : Nat) (zs : List Int) (k : Nat) (ht : Tryz.prog.underlying t = some (.array n e)) (he : Tryz.prog.underlying e = some (.int .i64)) (hsz : ∀ w, (sizeOf e).run Tryz.prog w = .ok 1 w) (hl : zs.length = n) (hk : k < n) :
    (Instr.index t (.agg (is zs).toArray) (.int .i64 k)).run Tryz.prog w = .ok (.int .i64 (zs.getD k 0)) w := by
  have h1 : (is zs)[k]? = some (.int .i64 (zs.getD k 0)) := is_get (by omega)
  have h2 : (isAgg e).run Tryz.prog w = .ok false w := by simp [isAgg, run_underlying he]
  generalize zs.getD k 0 = x at h1 ⊢
  generalize is zs = cs at h1 ⊢
  simp [Instr.index, run_underlying ht, asIntOf, go_sem, hsz, part, h1, h2, hk]

/-- a leaf's cells -/
def lcs (l : Lf) : List Value := .int .i64 l.gen :: .int .i64 l.index :: is l.places
theorem lcs_length {l : Lf} (h : In l) : (lcs l).length = 12 := by unfold In at h; simp [lcs, is_length, h]
theorem lcs_one (l : Lf) : ∀ u ∈ lcs l, u.oneCell' = true := by
  intro u hu
  simp only [lcs, List.mem_cons] at hu
  rcases hu with rfl | rfl | hu
  · rfl
  · rfl
  · exact is_one _ u hu
theorem lcs_inj {a b : Lf} (h : lcs a = lcs b) : a = b := by
  unfold lcs at h
  injection h with h0 h
  injection h with h1 h
  have h5 := is_inj h
  injection h0 with _ h0
  injection h1 with _ h1
  cases a; cases b; simp_all
theorem lcs_place (l : Lf) (k : Nat) : (lcs l)[2 + k]? = (is l.places)[k]? := by
  rw [show 2 + k = k + 1 + 1 by omega]
  rfl
theorem lcs_set (l : Lf) (k : Nat) (v : Int) : (lcs l).set (2 + k) (.int .i64 v) = lcs { l with places := l.places.set k v } := by
  rw [show 2 + k = k + 1 + 1 by omega]
  simp [lcs, is_set]
section
variable {w : World} {b : Nat} {T : TypeId} {l : Lf}
theorem Box.lf (h : Box w b T (lcs l)) : w.cell? ⟨b, 0, none⟩ = some (.int .i64 l.gen) ∧ w.cell? ⟨b, 1, none⟩ = some (.int .i64 l.index) := ⟨h.cell 0, h.cell 1⟩
theorem Box.lfPlace (h : Box w b T (lcs l)) {k : Nat} (hk : k < l.places.length) : w.cell? ⟨b, 2 + k, none⟩ = some (.int .i64 (l.places.getD k 0)) := (h.cell (2 + k)).trans ((lcs_place l k).trans (is_get hk))
theorem Box.lfPlaces (h : Box w b T (lcs l)) : w.rangeAt b 2 (is l.places) := h.range 2 _ fun j v hj => by
  rw [lcs_place]
  exact hj
end
theorem size_int (w : World) : (sizeOf 3).run Tryz.prog w = .ok 1 w := by go_simp
theorem guard_leaf : Tryz.prog.eqGuardType Tryz.prog.depth 86 = false := by kernel_rfl
theorem zero_leaf (w : World) : (zeroValue 86).run Tryz.prog w = .ok (.agg (lcs lf0).toArray) w :=
  (zero_of_info (P := Tryz.prog) (t := 86) (v := .agg (lcs lf0).toArray) (n := 12) (by kernel_rfl)).1 w
theorem zero_ten (w : World) : (zeroValue 84).run Tryz.prog w = .ok (.agg (is z10).toArray) w :=
  (zero_of_info (P := Tryz.prog) (t := 84) (v := .agg (is z10).toArray) (n := 10) (by kernel_rfl)).1 w
theorem lf_size {l : Lf} (h : In l) : (Tryz.prog.info? 86).map (·.size) = some (lcs l).length := by rw [lcs_length h]; kernel_rfl
section
variable {w : World} {ops : Array Oper} {rest : List Oper} {o : Oper} {a : Act} {Q : Exit → Act → World → Prop}
theorem wpList_lf_store (hgd : o.guard = none) (x y : Operand) (ho : o.op = .store 86 x y) (g : Nat) (r old : Lf) (hr : In r) (hold : In old) (hx : a.eval x = .pointer (some ⟨g, 0, none⟩)) (hy : a.eval y = .agg (lcs r).toArray) (hb : Box w g 86 (lcs old))
    (h : ∀ w', Box w' g 86 (lcs r) → w.grownBy w' (some g) → w'.heap.size = w.heap.size → wpList Tryz.prog ops Q rest (a.put o.dst undef) w') : wpList Tryz.prog ops Q (o :: rest) a w :=
  wpList_store_box w hgd _ x y ho g (lcs r) (lcs old) (lf_size hr) (by rw [lcs_length hr, lcs_length hold]) (lcs_one r) hx hy hb
    (h _ (setRow_heap w g _ _ _ _ hb) ⟨rfl, rfl, rfl, by simp [World.setRow], fun k _ hk => setRow_other w g k _ (by intro e; exact hk (by rw [e]))⟩ (by simp [World.setRow]))
theorem wpList_lf_alloc (hgd : o.guard = none) (ho : o.op = .alloc 86)
    (h : ∀ w', Box w' w.heap.size 86 (lcs lf0) → Below w.heap.size w w' → w'.heap.size = w.heap.size + 1 → wpList Tryz.prog ops Q rest (a.put o.dst (.pointer (some ⟨w.heap.size, 0, none⟩))) w') : wpList Tryz.prog ops Q (o :: rest) a w :=
  wpList_alloc_box w hgd _ ho (lcs lf0) zero_leaf h
theorem wpList_lf_box (hgd : o.guard = none) (x : Operand) (ho : o.op = .box 86 x) (r : Lf) (hx : a.eval x = .agg (lcs r).toArray)
    (h : ∀ w', Box w' w.heap.size 86 (lcs r) → Below w.heap.size w w' → w'.heap.size = w.heap.size + 1 → wpList Tryz.prog ops Q rest (a.put o.dst (.pointer (some ⟨w.heap.size, 0, none⟩))) w') : wpList Tryz.prog ops Q (o :: rest) a w :=
  wpList_box_box w hgd _ x ho (lcs r) hx h
theorem wpList_ten_box (hgd : o.guard = none) (x : Operand) (ho : o.op = .box 84 x) (zs : List Int) (hx : a.eval x = .agg (is zs).toArray)
    (h : ∀ w', Box w' w.heap.size 84 (is zs) → Below w.heap.size w w' → w'.heap.size = w.heap.size + 1 → wpList Tryz.prog ops Q rest (a.put o.dst (.pointer (some ⟨w.heap.size, 0, none⟩))) w') : wpList Tryz.prog ops Q (o :: rest) a w :=
  wpList_box_box w hgd _ x ho (is zs) hx h
end
/-- two leaves are compared -/
def lfEq (a b : Lf) : Bool := a.gen == b.gen && (a.index == b.index && a.places == b.places)
theorem lfEq_iff (a b : Lf) : lfEq a b = true ↔ a = b := by
  cases a; cases b; simp [lfEq]
theorem part_ten (a : Lf) (ha : In a) (w : World) : (part 84 (lcs a).toArray 2).run Tryz.prog w = .ok (.agg (is a.places).toArray) w := by
  obtain ⟨m, hm, hsz⟩ := big_size (P := Tryz.prog) (t := 84) (s := 10) (by kernel_rfl)
  have e : List.take m (List.drop 2 (lcs a)) = is a.places := by
    show List.take m (is a.places) = is a.places
    exact List.take_of_length_le (by unfold In at ha; rw [is_length, ha, hm]; decide)
  simp [part, isAgg, run_underlying Tryz.underlying84, hsz, e]
theorem equal_leaf (w : World) (a b : Lf) (ha : In a) (hb : In b) : (Op.equalIn 10000 86 (.agg (lcs a).toArray) (.agg (lcs b).toArray)).run Tryz.prog w = .ok (lfEq a b) w := by
  have hD : ∀ w', (Op.equalIn 9999 84 (.agg (is a.places).toArray) (.agg (is b.places).toArray)).run Tryz.prog w' = .ok (a.places == b.places) w' := fun w' => big_equal (P := Tryz.prog) w' 9997 84 _ 10 .i64 Tryz.underlying84 Tryz.underlying3 size_int a.places b.places ha hb
  have pa := fun w' => part_ten a ha w'
  have pb := fun w' => part_ten b hb w'
  have hI : ∀ (r : Lf) (k : Nat) (v : Int) (w' : World), (lcs r).toArray[k]? = some (.int .i64 v) → (part 3 (lcs r).toArray k).run Tryz.prog w' = .ok (.int .i64 v) w' := fun r k v w' h => by
    simp [part, isAgg, run_underlying Tryz.underlying3, h]
  have a0 := fun w' => hI a 0 a.gen w' rfl
  have a1 := fun w' => hI a 1 a.index w' rfl
  have b0 := fun w' => hI b 0 b.gen w' rfl
  have b1 := fun w' => hI b 1 b.index w' rfl
  rw [run_equalIn_agg _ _ _ _ _ (by kernel_rfl) (by kernel_rfl)]
  have hi := fun (x y : Int) (w' : World) => run_equalIn_int (P := Tryz.prog) w' 9998 3 .i64 .i64 x y Tryz.underlying3
  clear hI
  generalize lcs a = ra at *
  generalize lcs b = rb at *
  simp only [Op.eqFields, Program.fieldsOf, Tryz.underlying86]
  simp [a0, a1, b0, b1, pa, pb, hD, hi]
  unfold lfEq
  by_cases h0 : a.gen = b.gen <;> by_cases h1 : a.index = b.index <;> by_cases h5 : a.places = b.places <;> simp [h0, h1, h5]

/-! a leaf is built of its parts -/
theorem leaf_places (w : World) : (Array.mapM (fun f : Field => (do pure (f.offset, ← sizeOf f.type) : Sem (Nat × Nat))) (Tryz.prog.fieldsOf 86)).run Tryz.prog w = .ok #[(0, 1), (1, 1), (2, 10)] w := by
  have h3 : ∀ w : World, (sizeOf 3).run Tryz.prog w = .ok 1 w := by intro w; go_simp
  have h23 : ∀ w : World, (sizeOf 84).run Tryz.prog w = .ok 10 w := by intro w; go_simp
  simp only [Program.fieldsOf, Tryz.underlying86]
  simp only [List.mapM_toArray, List.mapM_cons, List.mapM_nil, Sem.run_bind, Sem.run_pure, h3, h23, Result.andThen, Sem.run_map]
theorem run_build_leaf2 (w : World) (g i : Int) :
    (Instr.build 86 #[(0, .int .i64 g), (1, .int .i64 i)]).run Tryz.prog w = .ok (.agg (lcs ⟨g, i, z10⟩).toArray) w := by
  have hp := leaf_places w
  simp only [Program.fieldsOf, Tryz.underlying86] at hp
  unfold Instr.build
  simp only [Sem.run_bind, zero_leaf w, Result.andThen, run_underlying Tryz.underlying86, hp]
  have e : Instr.fill (fun x => #[((0, 1) : Nat × Nat), (1, 1), (2, 10)][x]?) (Value.agg (lcs lf0).toArray).cells [(0, .int .i64 g), (1, .int .i64 i)] = some (lcs ⟨g, i, z10⟩).toArray := by
    refine (fill_int _ [] _ _ _ _ 0 0 _ rfl rfl).trans ?_
    exact (fill_int _ [_] _ _ _ _ 1 1 _ rfl rfl).trans rfl
  rw [e]
  rfl
theorem run_build_leaf3 (w : World) (l : Lf) (h : In l) :
    (Instr.build 86 #[(0, .int .i64 l.gen), (1, .int .i64 l.index), (2, .agg (is l.places).toArray)]).run Tryz.prog w = .ok (.agg (lcs l).toArray) w := by
  have hp := leaf_places w
  simp only [Program.fieldsOf, Tryz.underlying86] at hp
  unfold Instr.build
  simp only [Sem.run_bind, zero_leaf w, Result.andThen, run_underlying Tryz.underlying86, hp]
  have e : Instr.fill (fun x => #[((0, 1) : Nat × Nat), (1, 1), (2, 10)][x]?) (Value.agg (lcs lf0).toArray).cells [(0, .int .i64 l.gen), (1, .int .i64 l.index), (2, .agg (is l.places).toArray)] = some (lcs l).toArray := by
    unfold In at h
    refine (fill_int _ [] _ _ _ _ 0 0 _ rfl rfl).trans ?_
    refine (fill_int _ [_] _ _ _ _ 1 1 _ rfl rfl).trans ?_
    exact fill_end _ [_, _] (is z10) (is l.places) 2 2 (by rw [is_length, h]; rfl) rfl (by rw [is_length, is_length, h]; rfl)
  rw [e]
  rfl
theorem run_build_leaf0 (w : World) : (Instr.build 86 #[]).run Tryz.prog w = .ok (.agg (lcs lf0).toArray) w := by
  have hp := leaf_places w
  simp only [Program.fieldsOf, Tryz.underlying86] at hp
  unfold Instr.build
  simp only [Sem.run_bind, zero_leaf w, Result.andThen, run_underlying Tryz.underlying86, hp]
  rfl
theorem run_build_ten1 (w : World) (x : Int) : (Instr.build 84 #[(0, .int .i64 x)]).run Tryz.prog w = .ok (.agg (is (x :: List.replicate 9 0)).toArray) w := by
  unfold Instr.build
  simp only [Sem.run_bind, zero_ten w, Result.andThen, run_underlying Tryz.underlying84, size_int]
  rfl
section
variable {w : World} {ops : Array Oper} {rest : List Oper} {o : Oper} {a : Act} {Q : Exit → Act → World → Prop}
theorem wpList_lf_zero (hgd : o.guard = none) (ho : o.op = .build 86 #[]) (h : wpList Tryz.prog ops Q rest (a.put o.dst (.agg (lcs lf0).toArray)) w) : wpList Tryz.prog ops Q (o :: rest) a w := by
  refine wpList_plain hgd fun K hK => ?_
  unfold Oper.wp
  simp [execOp, ho, run_build_leaf0 w, Result.andThen]
  exact hK _ _ h
theorem wpList_lf_build2 (hgd : o.guard = none) (x0 x1 : Operand) (ho : o.op = .build 86 #[(0, x0), (1, x1)]) (g i : Int) (h0 : a.eval x0 = .int .i64 g) (h1 : a.eval x1 = .int .i64 i)
    (h : wpList Tryz.prog ops Q rest (a.put o.dst (.agg (lcs ⟨g, i, z10⟩).toArray)) w) : wpList Tryz.prog ops Q (o :: rest) a w := by
  refine wpList_plain hgd fun K hK => ?_
  unfold Oper.wp
  simp [execOp, ho, h0, h1, run_build_leaf2 w g i, Result.andThen]
  exact hK _ _ h
end
end Go.Proofs.YtgnpohkippegpaaGreat

/-
  Package page, as plain mathematics on lists of bytes: leaves, their sectors, what is read. No program but the sums' own texts.
-/
namespace Go.Proofs.YtgnpohkippegpaaGreat
open Go.RowKit Word Crc
set_option linter.unusedVariables false

namespace Leaf
open Rec (num numB i64 hi octets_append get_mid getD_of_split hi_i64 i64_low i64_high)
abbrev place (n : Int) : Prop := 0 ≤ n ∧ n ≤ 4294967295
def Narrow (ps : List Int) : Prop := ∀ n ∈ ps, place n
instance (ps : List Int) : Decidable (Narrow ps) := by unfold Narrow; exact inferInstance
def narrowB (ps : List Int) : Bool := decide (Narrow ps)
abbrev idx (n : Int) : Prop := 0 ≤ n ∧ n ≤ 4096
def idxB (n : Int) : Bool := decide (0 ≤ n) && decide (n ≤ 4096)
def Ok (l : Lf) : Prop := num l.gen ∧ idx l.index ∧ Narrow l.places
instance (l : Lf) : Decidable (Ok l) := by unfold Ok; exact inferInstance
def okB (l : Lf) : Bool := decide (Ok l)
theorem idxB_yes {n : Int} (h : idx n) : idxB n = true := by unfold idxB; rw [decide_eq_true h.1, decide_eq_true h.2]; rfl
theorem idxB_no {n : Int} (h : ¬ idx n) : idxB n = false := by
  unfold idxB
  by_cases h1 : 0 ≤ n
  · rw [decide_eq_true h1, decide_eq_false (fun h2 => h ⟨h1, h2⟩)]; rfl
  · rw [decide_eq_false h1]; rfl
theorem okB_eq (l : Lf) : okB l = (numB l.gen && idxB l.index && narrowB l.places) := by
  unfold okB narrowB
  by_cases h1 : num l.gen
  · by_cases h2 : idx l.index
    · rw [Rec.numB_yes h1, idxB_yes h2]
      by_cases h3 : Narrow l.places
      · rw [decide_eq_true (show Ok l from ⟨h1, h2, h3⟩), decide_eq_true h3]; rfl
      · rw [decide_eq_false (fun h : Ok l => h3 h.2.2), decide_eq_false h3]; rfl
    · rw [Rec.numB_yes h1, idxB_no h2, decide_eq_false (fun h : Ok l => h2 h.2.1)]; rfl
  · rw [Rec.numB_no h1, decide_eq_false (fun h : Ok l => h1 h.1)]; rfl

def flat (ps : List Int) : List Int := ps.flatMap (le 4)
theorem flat_length (ps : List Int) : (flat ps).length = 4 * ps.length := by
  induction ps with
  | nil => rfl
  | cons p ps ih => unfold flat at *; rw [List.flatMap_cons, List.length_append, ih, le_length, List.length_cons]; omega
theorem flat_octets (ps : List Int) : octets (flat ps) := by
  intro z hz
  obtain ⟨p, _, h⟩ := List.mem_flatMap.1 hz
  exact le_bytes _ _ z h
theorem flat_snoc (ps : List Int) (k : Nat) (h : k < ps.length) : flat (ps.take (k + 1)) = flat (ps.take k) ++ le 4 (ps.getD k 0) := by
  unfold flat
  rw [List.take_succ_eq_append_getElem h, List.flatMap_append]
  simp [List.getD_eq_getElem?_getD, List.getElem?_eq_getElem h]
theorem flat_split (ps : List Int) (k : Nat) (h : k < ps.length) : flat ps = flat (ps.take k) ++ (le 4 (ps.getD k 0) ++ flat (ps.drop (k + 1))) := by
  have e : ps = ps.take k ++ (ps.getD k 0 :: ps.drop (k + 1)) := by
    have h1 : ps.drop k = ps.getD k 0 :: ps.drop (k + 1) := by
      rw [List.drop_eq_getElem_cons h, List.getD_eq_getElem?_getD, List.getElem?_eq_getElem h]
      rfl
    rw [← h1, List.take_append_drop]
  conv => lhs; rw [e]
  unfold flat
  rw [List.flatMap_append, List.flatMap_cons]
def front (l : Lf) : List Int := [128] ++ (le 8 l.gen ++ (le 4 l.index ++ (flat l.places ++ List.replicate 7 0)))
def layL (l : Lf) : List Int := sealed (front l)
theorem front_length (l : Lf) (h : In l) : (front l).length = 60 := by unfold In at h; simp [front, le_length, flat_length, h]
theorem layL_length (l : Lf) (h : In l) : (layL l).length = 64 := by unfold layL; rw [sealed_length, front_length l h]
theorem front_octets (l : Lf) : octets (front l) := by
  unfold front
  refine octets_append ?_ (octets_append (le_bytes _ _) (octets_append (le_bytes _ _) (octets_append (flat_octets _) ?_)))
  · intro z hz; simp at hz; omega
  · intro z hz; simp at hz; omega
theorem layL_octets (l : Lf) : octets (layL l) := sealed_octets (front_octets l)
theorem layL_right (l : Lf) : rightB (layL l) = true := right_sealed (front_octets l)
theorem layL_eq (l : Lf) : layL l = [128] ++ (le 8 l.gen ++ (le 4 l.index ++ (flat l.places ++ (List.replicate 7 0 ++ le 4 ((Crc.sum (front l) : Nat) : Int))))) := by
  unfold layL sealed
  generalize le 4 ((Crc.sum (front l) : Nat) : Int) = s
  unfold front
  simp only [List.append_assoc]
theorem layL_zero (l : Lf) : (layL l).getD 0 0 = 128 := by rw [layL_eq]; rfl

/-- what stands in a sector -/
def taken (p : List Int) : Lf := ⟨i64 (get p 1 8), i64 (get p 9 4), (List.range 10).map fun i => i64 (get p (13 + 4 * i) 4)⟩
theorem taken_in (p : List Int) : In (taken p) := by simp [In, taken]
theorem get_place (l : Lf) (h : In l) (i : Nat) (hi : i < 10) : get (layL l) (13 + 4 * i) 4 = l.places.getD i 0 % 2 ^ (8 * 4) := by
  have := get_mid ([128] ++ le 8 l.gen ++ le 4 l.index ++ flat (l.places.take i)) (flat (l.places.drop (i + 1)) ++ (List.replicate 7 0 ++ le 4 (Crc.sum (front l) : Nat))) 4 (l.places.getD i 0) (13 + 4 * i) (by
    unfold In at h
    simp [le_length, flat_length, h]; omega)
  rw [layL_eq, flat_split l.places i (by unfold In at h; omega)]
  simp only [List.append_assoc] at this ⊢
  exact this
theorem getD_mem {xs : List Int} {i : Nat} (h : i < xs.length) : xs.getD i 0 ∈ xs := by
  rw [List.getD_eq_getElem?_getD, List.getElem?_eq_getElem h]
  exact List.getElem_mem h
theorem map_getD (xs : List Int) (n : Nat) (f : Nat → Int) (h : xs.length = n) (hf : ∀ i, i < n → f i = xs.getD i 0) : (List.range n).map f = xs := by
  apply List.ext_getElem (by simp [h])
  intro i h1 h2
  simp only [List.getElem_map, List.getElem_range]
  rw [hf i (by simpa using h1), List.getD_eq_getElem?_getD, List.getElem?_eq_getElem h2]
  rfl
theorem taken_lay {l : Lf} (h : Ok l) (hi : In l) : taken (layL l) = l := by
  have hg := h.1
  have hx := h.2.1
  have e1 : get (layL l) 1 8 = l.gen := by
    have := get_mid [128] (le 4 l.index ++ (flat l.places ++ (List.replicate 7 0 ++ le 4 (Crc.sum (front l) : Nat)))) 8 l.gen 1 rfl
    rw [layL_eq, this]
    exact Int.emod_eq_of_lt (by omega) (by omega)
  have e2 : get (layL l) 9 4 = l.index := by
    have := get_mid ([128] ++ le 8 l.gen) (flat l.places ++ (List.replicate 7 0 ++ le 4 (Crc.sum (front l) : Nat))) 4 l.index 9 (by simp [le_length])
    simp only [List.append_assoc] at this
    rw [layL_eq, this]
    exact Int.emod_eq_of_lt (by omega) (by omega)
  have e3 : (List.range 10).map (fun i => i64 (get (layL l) (13 + 4 * i) 4)) = l.places := by
    refine map_getD _ _ _ hi fun i hlt => ?_
    have hp := h.2.2 _ (getD_mem (show i < l.places.length by unfold In at hi; omega))
    rw [get_place l hi i hlt, Int.emod_eq_of_lt (by omega) (by omega)]
    exact i64_low (by omega) (by omega)
  unfold taken
  rw [e1, e2, e3, i64_low (by omega) (by omega), i64_low (by omega) (by omega)]

/-- what Read answers: the leaf, and why it is none -/
def readS (p : List Int) : Lf × Int :=
  if rightB p = false then (lf0, 8) else if okB (taken p) = true ∧ layL (taken p) = p then (taken p, 0) else (lf0, 7)
theorem read_lay {l : Lf} (h : Ok l) (hi : In l) : readS (layL l) = (l, 0) := by
  unfold readS
  rw [if_neg (by rw [layL_right l]; simp), taken_lay h hi, if_pos ⟨decide_eq_true h, rfl⟩]
theorem lay_inj {a b : Lf} (ha : Ok a) (hb : Ok b) (ia : In a) (ib : In b) (h : layL a = layL b) : a = b := by
  rw [← taken_lay ha ia, h, taken_lay hb ib]
theorem read_in (p : List Int) : In (readS p).1 := by
  unfold readS
  split
  · exact lf0_in
  · split
    · exact taken_in p
    · exact lf0_in

/-! no leaf's sector is a record's -/
theorem rec_zero (r : Rec.Rc) : (Rec.layL r).getD 0 0 = r.kind := by rw [Rec.layL_eq]; rfl
theorem rec_of_leaf (l : Lf) (hi : In l) : Rec.readS (layL l) = (Rec.rc0, 7) := by
  unfold Rec.readS
  rw [if_neg (by rw [layL_right l]; simp), if_neg]
  rintro ⟨h, _⟩
  have hk := (of_decide_eq_true h : Rec.Ok (Rec.taken (layL l))).kind
  have : (Rec.taken (layL l)).kind = 128 := layL_zero l
  omega
theorem leaf_of_rec (r : Rec.Rc) (h : Rec.Ok r) (hi : Rec.In r) : readS (Rec.layL r) = (lf0, 7) := by
  unfold readS
  rw [if_neg (by rw [Rec.layL_right h hi.2]; simp), if_neg]
  rintro ⟨_, e⟩
  have h1 := layL_zero (taken (Rec.layL r))
  rw [e, rec_zero] at h1
  have := h.kind
  omega

/-! the document's answer -/
def rtaken (p : List Int) : Lf := ⟨hi (get p 1 8), hi (get p 9 4), (List.range 10).map fun i => hi (get p (13 + 4 * i) 4)⟩
theorem rtaken_in (p : List Int) : In (rtaken p) := by simp [In, rtaken]
def Noughts (p : List Int) : Prop := ∀ i, 53 ≤ i → i < 60 → p.getD i 0 = 0
instance (p : List Int) : Decidable (Noughts p) := decidable_of_iff (∀ i, i < 60 → 53 ≤ i → p.getD i 0 = 0) ⟨fun h i a b => h i b a, fun h i a b => h i b a⟩
def rreadS (p : List Int) : Lf × Int :=
  if rightB p = false then (lf0, 8) else if p.getD 0 0 = 128 ∧ okB (rtaken p) = true ∧ Noughts p then (rtaken p, 0) else (lf0, 7)
theorem take_drop_cons {p : List Int} {k n : Nat} (h : k < p.length) : (p.drop k).take (n + 1) = p.getD k 0 :: (p.drop (k + 1)).take n := by
  rw [List.drop_eq_getElem_cons h, List.take_succ_cons, List.getD_eq_getElem?_getD, List.getElem?_eq_getElem h]
  rfl
theorem flat_get (p : List Int) (hl : p.length = 64) (hp : octets p) (at_ : Nat) : ∀ n, at_ + 4 * n ≤ 64 → flat ((List.range n).map fun i => get p (at_ + 4 * i) 4) = (p.drop at_).take (4 * n) := by
  intro n
  induction n with
  | zero => intro _; simp [flat]
  | succ n ih =>
    intro h
    have h4 : le 4 (get p (at_ + 4 * n) 4) = (p.drop (at_ + 4 * n)).take 4 := by
      have := le_val ((p.drop (at_ + 4 * n)).take 4) (fun z hz => hp z (List.mem_of_mem_drop (List.mem_of_mem_take hz)))
      rw [show ((p.drop (at_ + 4 * n)).take 4).length = 4 by simp [hl]; omega] at this
      exact this
    have ih' := ih (by omega)
    rw [List.range_succ, List.map_append]
    unfold flat at ih' ⊢
    rw [List.flatMap_append, ih']
    simp only [List.map_cons, List.map_nil, List.flatMap_cons, List.flatMap_nil, List.append_nil]
    rw [h4, show 4 * (n + 1) = 4 * n + 4 by omega, List.take_add, List.drop_drop]
theorem front_taken {p : List Int} (hl : p.length = 64) (hp : octets p) (hk : Ok (taken p)) (h0 : p.getD 0 0 = 128) (hn : Noughts p) : front (taken p) = p.take 60 := by
  have ho : ∀ a b : Nat, octets ((p.drop a).take b) := fun a b z hz => hp z (List.mem_of_mem_drop (List.mem_of_mem_take hz))
  have g : ∀ a b : Nat, 0 ≤ get p a b ∧ get p a b < 2 ^ (8 * b) := fun a b => get_bounds p a b hp
  have hle : ∀ a b : Nat, a + b ≤ 64 → le b (get p a b) = (p.drop a).take b := fun a b hab => by
    have := le_val _ (ho a b)
    rw [show ((p.drop a).take b).length = b by simp [hl]; omega] at this
    exact this
  have b1 := g 1 8
  have b2 := g 9 4
  have hi1 : i64 (get p 1 8) = get p 1 8 := by
    have n1 : num (i64 (get p 1 8)) := hk.1
    by_cases h : get p 1 8 < 9223372036854775808
    · exact i64_low b1.1 h
    · rw [i64_high (by omega) (by omega)] at n1; omega
  have hmap : ((List.range 10).map fun i => i64 (get p (13 + 4 * i) 4)) = (List.range 10).map fun i => get p (13 + 4 * i) 4 := by
    apply List.map_congr_left
    intro i _
    have := g (13 + 4 * i) 4
    exact i64_low this.1 (by omega)
  show [128] ++ (le 8 (i64 (get p 1 8)) ++ (le 4 (i64 (get p 9 4)) ++ (flat ((List.range 10).map fun i => i64 (get p (13 + 4 * i) 4)) ++ List.replicate 7 0))) = p.take 60
  rw [hmap, flat_get p hl hp 13 10 (by omega), hi1, i64_low b2.1 (by omega), hle 1 8 (by omega), hle 9 4 (by omega)]
  have s0 : p.take 60 = p.take 1 ++ (p.drop 1).take 59 := List.take_add (i := 1) (j := 59)
  have s1 : (p.drop 1).take 59 = (p.drop 1).take 8 ++ (p.drop 9).take 51 := by rw [show (59 : Nat) = 8 + 51 from rfl, List.take_add, List.drop_drop]
  have s2 : (p.drop 9).take 51 = (p.drop 9).take 4 ++ (p.drop 13).take 47 := by rw [show (51 : Nat) = 4 + 47 from rfl, List.take_add, List.drop_drop]
  have s3 : (p.drop 13).take 47 = (p.drop 13).take 40 ++ (p.drop 53).take 7 := by rw [show (47 : Nat) = 40 + 7 from rfl, List.take_add, List.drop_drop]
  have s4 : (p.drop 53).take 7 = List.replicate 7 0 := by
    rw [take_drop_cons (by omega), take_drop_cons (by omega), take_drop_cons (by omega), take_drop_cons (by omega), take_drop_cons (by omega), take_drop_cons (by omega), take_drop_cons (by omega),
      hn 53 (by omega) (by omega), hn 54 (by omega) (by omega), hn 55 (by omega) (by omega), hn 56 (by omega) (by omega), hn 57 (by omega) (by omega), hn 58 (by omega) (by omega), hn 59 (by omega) (by omega)]
    rfl
  have s5 : p.take 1 = [128] := by have := getD_of_split (p := p) (k := 0) (by omega); rw [h0] at this; simpa using this
  rw [s0, s1, s2, s3, s4, s5]
theorem front_zero (l : Lf) (h : In l) : Noughts (layL l) := by
  intro i h1 h2
  have e : layL l = ([128] ++ le 8 l.gen ++ le 4 l.index ++ flat l.places) ++ (List.replicate 7 0 ++ le 4 (Crc.sum (front l) : Nat)) := by
    rw [layL_eq]
    simp only [List.append_assoc]
  have hl : ([128] ++ le 8 l.gen ++ le 4 l.index ++ flat l.places).length = 53 := by unfold In at h; simp [le_length, flat_length, h]
  rw [e]
  generalize [128] ++ le 8 l.gen ++ le 4 l.index ++ flat l.places = xs at hl
  rw [List.getD_eq_getElem?_getD, List.getElem?_append_right (by omega), List.getElem?_append_left (by simp; omega), hl, List.getElem?_replicate, if_pos (by omega)]
  rfl
theorem read_eq {p : List Int} (hl : p.length = 64) (hp : octets p) : rreadS p = readS p := by
  unfold rreadS readS
  by_cases hr : rightB p = false
  · rw [if_pos hr, if_pos hr]
  · rw [if_neg hr, if_neg hr]
    have hr' : rightB p = true := by simpa using hr
    have hseal : sealed (p.take 60) = p := by
      rw [rightB_eq p hp (by omega), hl] at hr'
      exact eq_of_beq hr'
    have b1 := get_bounds p 1 8 hp
    have b2 := get_bounds p 9 4 hp
    have i1 := hi_i64 (x := get p 1 8) b1.1 (by have := b1.2; omega)
    have small : ∀ a, hi (get p a 4) = i64 (get p a 4) := fun a => by
      have b := get_bounds p a 4 hp
      rw [i64_low b.1 (by omega)]
      unfold hi
      rw [if_neg (by omega)]
    have hmap : ((List.range 10).map fun i => hi (get p (13 + 4 * i) 4)) = (List.range 10).map fun i => i64 (get p (13 + 4 * i) 4) := List.map_congr_left fun i _ => small _
    have hsame : okB (rtaken p) = true → rtaken p = taken p := by
      intro h
      have hk : Ok (rtaken p) := of_decide_eq_true h
      unfold rtaken taken
      rw [i1.2 hk.1, small, hmap]
    have hback : okB (taken p) = true → rtaken p = taken p := by
      intro h
      have hk : Ok (taken p) := of_decide_eq_true h
      unfold rtaken taken
      rw [i1.2 (i1.1.2 hk.1), small, hmap]
    by_cases hc : p.getD 0 0 = 128 ∧ okB (rtaken p) = true ∧ Noughts p
    · have he := hsame hc.2.1
      rw [if_pos hc, he, if_pos]
      have hk : okB (taken p) = true := he ▸ hc.2.1
      refine ⟨hk, ?_⟩
      unfold layL
      rw [front_taken hl hp (of_decide_eq_true hk) hc.1 hc.2.2, hseal]
    · rw [if_neg hc, if_neg]
      rintro ⟨h1, h2⟩
      apply hc
      refine ⟨?_, (hback h1) ▸ h1, ?_⟩
      · rw [← h2]; exact layL_zero _
      · rw [← h2]; exact front_zero _ (taken_in p)

/-! the sector, as the program's stores make it -/
def stage (l : Lf) (k : Nat) : List Int := [128] ++ le 8 l.gen ++ le 4 l.index ++ flat (l.places.take k) ++ List.replicate (51 - 4 * k) 0
theorem put_midL (xs : List Int) (j k n : Nat) (y : Int) (hz : xs.length = j) : put (xs ++ List.replicate (k + n) 0) j k y = xs ++ le k y ++ List.replicate n 0 := by
  subst hz
  unfold put
  rw [List.take_left, ← List.drop_drop, List.drop_left, List.drop_replicate, List.append_assoc]
  congr 3
  omega
theorem stage_gen (l : Lf) : put ((List.replicate 64 0).set 0 128) 1 8 l.gen = [128] ++ le 8 l.gen ++ List.replicate 55 0 := by
  rw [show (List.replicate 64 (0 : Int)).set 0 128 = [128] ++ List.replicate (8 + 55) 0 from rfl, put_midL _ 1 8 55 _ rfl]
theorem stage_index (l : Lf) : put ([128] ++ le 8 l.gen ++ List.replicate 55 0) 9 4 l.index = stage l 0 := by
  rw [show (55 : Nat) = 4 + 51 from rfl, put_midL _ 9 4 51 _ (by simp [le_length])]
  simp [stage, flat]
theorem stage_place (l : Lf) (h : In l) (k : Nat) (hk : k < 10) : put (stage l k) (13 + 4 * k) 4 (l.places.getD k 0) = stage l (k + 1) := by
  unfold In at h
  unfold stage
  rw [show 51 - 4 * k = 4 + (51 - 4 * (k + 1)) by omega, put_midL _ (13 + 4 * k) 4 _ _ (by simp [le_length, flat_length, h]; omega), flat_snoc _ _ (by omega)]
  simp only [List.append_assoc]
theorem stage_length (l : Lf) (h : In l) (k : Nat) (hk : k ≤ 10) : (stage l k).length = 64 := by
  unfold In at h
  simp [stage, le_length, flat_length, h]; omega
theorem stage_end (l : Lf) (h : In l) : (stage l 10).take 60 = front l := by
  unfold In at h
  have e : stage l 10 = front l ++ List.replicate 4 0 := by
    unfold stage front
    rw [List.take_of_length_le (by omega)]
    simp only [List.append_assoc]
    rfl
  rw [e, List.take_left' (front_length l h)]
/-- a place of the other kind -/
theorem narrow_set {ps : List Int} (h : Narrow ps) (k : Nat) {v : Int} (hv : place v) : Narrow (ps.set k v) := by
  intro n hn
  rcases List.mem_or_eq_of_mem_set hn with h1 | h1
  · exact h n h1
  · rw [h1]; exact hv
end Leaf
end Go.Proofs.YtgnpohkippegpaaGreat

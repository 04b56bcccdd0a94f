/-
  MsB LfD
-/
import Derived.Test.YtgnpohkippegpaaGreatMg25
import Derived.Test.YtgnpohkippegpaaGreatMg17
import Derived.Test.YtgnpohkippegpaaGreatMg22
import Derived.Test.YtgnpohkippegpaaGreatMg18
import Derived.Laws.Cover3
/-
  Masts and measures as blocks known whole: made, read, laid, compared.
-/
namespace Go.Proofs.YtgnpohkippegpaaGreat
open Go.RowKit Word Mast
set_option linter.unusedVariables false

/-- a mast's cells -/
def mcs (m : Mst) : List Value := [.bool m.foot, .int .i64 m.gen, .int .i64 m.epoch, .int .i64 m.seq, .int .i64 m.pages, .int .u32 m.sum]
theorem mcs_length (m : Mst) : (mcs m).length = 6 := rfl
theorem mcs_one (m : Mst) : ∀ u ∈ mcs m, u.oneCell' = true := by
  intro u hu
  simp only [mcs, List.mem_cons, List.not_mem_nil, or_false] at hu
  rcases hu with rfl | rfl | rfl | rfl | rfl | rfl <;> rfl
/-- a measure's cells -/
def gcs (g : Ge) : List Value := [.int .i64 g.conv, .int .i64 g.soft, .int .i64 g.seq, .int .i64 g.size, .int .i64 g.opn]
theorem gcs_length (g : Ge) : (gcs g).length = 5 := rfl
theorem gcs_one (g : Ge) : ∀ u ∈ gcs g, u.oneCell' = true := by
  intro u hu
  simp only [gcs, List.mem_cons, List.not_mem_nil, or_false] at hu
  rcases hu with rfl | rfl | rfl | rfl | rfl <;> rfl
section
variable {w : World} {b : Nat} {T : TypeId} {m : Mst} {g : Ge}
theorem Box.ms (h : Box w b T (mcs m)) : w.cell? ⟨b, 0, none⟩ = some (.bool m.foot) ∧ w.cell? ⟨b, 1, none⟩ = some (.int .i64 m.gen) ∧ w.cell? ⟨b, 2, none⟩ = some (.int .i64 m.epoch) ∧ w.cell? ⟨b, 3, none⟩ = some (.int .i64 m.seq) ∧ w.cell? ⟨b, 4, none⟩ = some (.int .i64 m.pages) ∧ w.cell? ⟨b, 5, none⟩ = some (.int .u32 m.sum) :=
  ⟨h.cell 0, h.cell 1, h.cell 2, h.cell 3, h.cell 4, h.cell 5⟩
theorem Box.ge (h : Box w b T (gcs g)) : w.cell? ⟨b, 0, none⟩ = some (.int .i64 g.conv) ∧ w.cell? ⟨b, 1, none⟩ = some (.int .i64 g.soft) ∧ w.cell? ⟨b, 2, none⟩ = some (.int .i64 g.seq) ∧ w.cell? ⟨b, 3, none⟩ = some (.int .i64 g.size) ∧ w.cell? ⟨b, 4, none⟩ = some (.int .i64 g.opn) :=
  ⟨h.cell 0, h.cell 1, h.cell 2, h.cell 3, h.cell 4⟩
end
theorem guard_mast : Tryz.prog.eqGuardType Tryz.prog.depth 34 = false := by kernel_rfl
theorem guard_geo : Tryz.prog.eqGuardType Tryz.prog.depth 23 = false := by kernel_rfl
theorem zero_mast (w : World) : (zeroValue 34).run Tryz.prog w = .ok (.agg (mcs m0).toArray) w :=
  (zero_of_info (P := Tryz.prog) (t := 34) (v := .agg (mcs m0).toArray) (n := 6) (by kernel_rfl)).1 w
theorem zero_geo (w : World) : (zeroValue 23).run Tryz.prog w = .ok (.agg (gcs g0).toArray) w :=
  (zero_of_info (P := Tryz.prog) (t := 23) (v := .agg (gcs g0).toArray) (n := 5) (by kernel_rfl)).1 w
theorem ms_size (m : Mst) : (Tryz.prog.info? 34).map (·.size) = some (mcs m).length := by rw [mcs_length]; kernel_rfl
theorem ge_size (g : Ge) : (Tryz.prog.info? 23).map (·.size) = some (gcs g).length := by rw [gcs_length]; kernel_rfl
section
variable {w : World} {ops : Array Oper} {rest : List Oper} {o : Oper} {a : Act} {Q : Exit → Act → World → Prop}
theorem wpList_ms_store (hgd : o.guard = none) (x y : Operand) (ho : o.op = .store 34 x y) (g : Nat) (r old : Mst) (hx : a.eval x = .pointer (some ⟨g, 0, none⟩)) (hy : a.eval y = .agg (mcs r).toArray) (hb : Box w g 34 (mcs old))
    (h : ∀ w', Box w' g 34 (mcs r) → w.grownBy w' (some g) → w'.heap.size = w.heap.size → wpList Tryz.prog ops Q rest (a.put o.dst undef) w') : wpList Tryz.prog ops Q (o :: rest) a w :=
  wpList_store_box w hgd _ x y ho g (mcs r) (mcs old) (ms_size r) rfl (mcs_one r) hx hy hb
    (h _ (setRow_heap w g _ _ _ _ hb) ⟨rfl, rfl, rfl, by simp [World.setRow], fun k _ hk => setRow_other w g k _ (by intro e; exact hk (by rw [e]))⟩ (by simp [World.setRow]))
theorem wpList_ms_alloc (hgd : o.guard = none) (ho : o.op = .alloc 34)
    (h : ∀ w', Box w' w.heap.size 34 (mcs m0) → Below w.heap.size w w' → w'.heap.size = w.heap.size + 1 → wpList Tryz.prog ops Q rest (a.put o.dst (.pointer (some ⟨w.heap.size, 0, none⟩))) w') : wpList Tryz.prog ops Q (o :: rest) a w :=
  wpList_alloc_box w hgd _ ho (mcs m0) zero_mast h
theorem wpList_ms_box (hgd : o.guard = none) (x : Operand) (ho : o.op = .box 34 x) (r : Mst) (hx : a.eval x = .agg (mcs r).toArray)
    (h : ∀ w', Box w' w.heap.size 34 (mcs r) → Below w.heap.size w w' → w'.heap.size = w.heap.size + 1 → wpList Tryz.prog ops Q rest (a.put o.dst (.pointer (some ⟨w.heap.size, 0, none⟩))) w') : wpList Tryz.prog ops Q (o :: rest) a w :=
  wpList_box_box w hgd _ x ho (mcs r) hx h
theorem wpList_ge_store (hgd : o.guard = none) (x y : Operand) (ho : o.op = .store 23 x y) (g : Nat) (r old : Ge) (hx : a.eval x = .pointer (some ⟨g, 0, none⟩)) (hy : a.eval y = .agg (gcs r).toArray) (hb : Box w g 23 (gcs old))
    (h : ∀ w', Box w' g 23 (gcs r) → w.grownBy w' (some g) → w'.heap.size = w.heap.size → wpList Tryz.prog ops Q rest (a.put o.dst undef) w') : wpList Tryz.prog ops Q (o :: rest) a w :=
  wpList_store_box w hgd _ x y ho g (gcs r) (gcs old) (ge_size r) rfl (gcs_one r) hx hy hb
    (h _ (setRow_heap w g _ _ _ _ hb) ⟨rfl, rfl, rfl, by simp [World.setRow], fun k _ hk => setRow_other w g k _ (by intro e; exact hk (by rw [e]))⟩ (by simp [World.setRow]))
theorem wpList_ge_alloc (hgd : o.guard = none) (ho : o.op = .alloc 23)
    (h : ∀ w', Box w' w.heap.size 23 (gcs g0) → Below w.heap.size w w' → w'.heap.size = w.heap.size + 1 → wpList Tryz.prog ops Q rest (a.put o.dst (.pointer (some ⟨w.heap.size, 0, none⟩))) w') : wpList Tryz.prog ops Q (o :: rest) a w :=
  wpList_alloc_box w hgd _ ho (gcs g0) zero_geo h
theorem wpList_ge_box (hgd : o.guard = none) (x : Operand) (ho : o.op = .box 23 x) (r : Ge) (hx : a.eval x = .agg (gcs r).toArray)
    (h : ∀ w', Box w' w.heap.size 23 (gcs r) → Below w.heap.size w w' → w'.heap.size = w.heap.size + 1 → wpList Tryz.prog ops Q rest (a.put o.dst (.pointer (some ⟨w.heap.size, 0, none⟩))) w') : wpList Tryz.prog ops Q (o :: rest) a w :=
  wpList_box_box w hgd _ x ho (gcs r) hx h
end
/-- two masts, two measures are compared -/
def msEq (a b : Mst) : Bool := a.foot == b.foot && (a.gen == b.gen && (a.epoch == b.epoch && (a.seq == b.seq && (a.pages == b.pages && a.sum == b.sum))))
theorem msEq_iff (a b : Mst) : msEq a b = true ↔ a = b := by
  cases a; cases b; simp [msEq]
def geEq (a b : Ge) : Bool := a.conv == b.conv && (a.soft == b.soft && (a.seq == b.seq && (a.size == b.size && a.opn == b.opn)))
theorem geEq_iff (a b : Ge) : geEq a b = true ↔ a = b := by
  cases a; cases b; simp [geEq]
theorem equal_mast (w : World) (a b : Mst) : (Op.equalIn 10000 34 (.agg (mcs a).toArray) (.agg (mcs b).toArray)).run Tryz.prog w = .ok (msEq a b) w := by
  have hI : ∀ (r : Mst) (t : TypeId) (k : Nat) (v : Value) (w' : World), (isAgg t).run Tryz.prog w' = .ok false w' → (mcs r).toArray[k]? = some v → (part t (mcs r).toArray k).run Tryz.prog w' = .ok v w' := fun r t k v w' hg h => by
    simp [part, hg, h]
  have gi : ∀ w', (isAgg 3).run Tryz.prog w' = .ok false w' := fun w' => by simp [isAgg, run_underlying Tryz.underlying3]
  have gb : ∀ w', (isAgg 4).run Tryz.prog w' = .ok false w' := fun w' => by simp [isAgg, run_underlying Tryz.underlying4]
  have gu : ∀ w', (isAgg 32).run Tryz.prog w' = .ok false w' := fun w' => by simp [isAgg, run_underlying Tryz.underlying32]
  have a0 := fun w' => hI a _ 0 (.bool a.foot) w' (gb w') rfl
  have a1 := fun w' => hI a _ 1 (.int .i64 a.gen) w' (gi w') rfl
  have a2 := fun w' => hI a _ 2 (.int .i64 a.epoch) w' (gi w') rfl
  have a3 := fun w' => hI a _ 3 (.int .i64 a.seq) w' (gi w') rfl
  have a4 := fun w' => hI a _ 4 (.int .i64 a.pages) w' (gi w') rfl
  have a5 := fun w' => hI a _ 5 (.int .u32 a.sum) w' (gu w') rfl
  have b0 := fun w' => hI b _ 0 (.bool b.foot) w' (gb w') rfl
  have b1 := fun w' => hI b _ 1 (.int .i64 b.gen) w' (gi w') rfl
  have b2 := fun w' => hI b _ 2 (.int .i64 b.epoch) w' (gi w') rfl
  have b3 := fun w' => hI b _ 3 (.int .i64 b.seq) w' (gi w') rfl
  have b4 := fun w' => hI b _ 4 (.int .i64 b.pages) w' (gi w') rfl
  have b5 := fun w' => hI b _ 5 (.int .u32 b.sum) w' (gu w') rfl
  rw [run_equalIn_agg _ _ _ _ _ (by kernel_rfl) (by kernel_rfl)]
  have hi := fun (x y : Int) (w' : World) => run_equalIn_int (P := Tryz.prog) w' 9998 3 .i64 .i64 x y Tryz.underlying3
  have hu := fun (x y : Int) (w' : World) => run_equalIn_int (P := Tryz.prog) w' 9998 32 .u32 .u32 x y Tryz.underlying32
  have hb := fun (x y : Bool) (w' : World) => run_equalIn_bool' (P := Tryz.prog) w' 9998 4 x y Tryz.underlying4
  clear hI gi gb gu
  generalize mcs a = ra at *
  generalize mcs b = rb at *
  simp only [Op.eqFields, Program.fieldsOf, Tryz.underlying34]
  simp [a0, a1, a2, a3, a4, a5, b0, b1, b2, b3, b4, b5, hi, hu, hb]
  unfold msEq
  by_cases h0 : a.foot = b.foot
  case neg => simp [h0]
  by_cases h1 : a.gen = b.gen
  case neg => simp [h0, h1]
  by_cases h2 : a.epoch = b.epoch
  case neg => simp [h0, h1, h2]
  by_cases h3 : a.seq = b.seq
  case neg => simp [h0, h1, h2, h3]
  by_cases h4 : a.pages = b.pages
  case neg => simp [h0, h1, h2, h3, h4]
  by_cases h5 : a.sum = b.sum
  case neg => simp [h0, h1, h2, h3, h4, h5]
  simp [h0, h1, h2, h3, h4, h5]
theorem equal_geo (w : World) (a b : Ge) : (Op.equalIn 10000 23 (.agg (gcs a).toArray) (.agg (gcs b).toArray)).run Tryz.prog w = .ok (geEq a b) w := by
  have hI : ∀ (r : Ge) (k : Nat) (v : Value) (w' : World), (gcs r).toArray[k]? = some v → (part 3 (gcs r).toArray k).run Tryz.prog w' = .ok v w' := fun r k v w' h => by
    simp [part, isAgg, run_underlying Tryz.underlying3, h]
  have a0 := fun w' => hI a 0 (.int .i64 a.conv) w' rfl
  have a1 := fun w' => hI a 1 (.int .i64 a.soft) w' rfl
  have a2 := fun w' => hI a 2 (.int .i64 a.seq) w' rfl
  have a3 := fun w' => hI a 3 (.int .i64 a.size) w' rfl
  have a4 := fun w' => hI a 4 (.int .i64 a.opn) w' rfl
  have b0 := fun w' => hI b 0 (.int .i64 b.conv) w' rfl
  have b1 := fun w' => hI b 1 (.int .i64 b.soft) w' rfl
  have b2 := fun w' => hI b 2 (.int .i64 b.seq) w' rfl
  have b3 := fun w' => hI b 3 (.int .i64 b.size) w' rfl
  have b4 := fun w' => hI b 4 (.int .i64 b.opn) w' rfl
  rw [run_equalIn_agg _ _ _ _ _ (by kernel_rfl) (by kernel_rfl)]
  have hi := fun (x y : Int) (w' : World) => run_equalIn_int (P := Tryz.prog) w' 9998 3 .i64 .i64 x y Tryz.underlying3
  clear hI
  generalize gcs a = ra at *
  generalize gcs b = rb at *
  simp only [Op.eqFields, Program.fieldsOf, Tryz.underlying23]
  simp [a0, a1, a2, a3, a4, b0, b1, b2, b3, b4, hi]
  unfold geEq
  by_cases h0 : a.conv = b.conv
  case neg => simp [h0]
  by_cases h1 : a.soft = b.soft
  case neg => simp [h0, h1]
  by_cases h2 : a.seq = b.seq
  case neg => simp [h0, h1, h2]
  by_cases h3 : a.size = b.size
  case neg => simp [h0, h1, h2, h3]
  by_cases h4 : a.opn = b.opn
  case neg => simp [h0, h1, h2, h3, h4]
  simp [h0, h1, h2, h3, h4]

/-! both are built of their parts -/
theorem mast_places (w : World) : (Array.mapM (fun f : Field => (do pure (f.offset, ← sizeOf f.type) : Sem (Nat × Nat))) (Tryz.prog.fieldsOf 34)).run Tryz.prog w = .ok #[(0, 1), (1, 1), (2, 1), (3, 1), (4, 1), (5, 1)] w := by
  have h3 : ∀ w : World, (sizeOf 3).run Tryz.prog w = .ok 1 w := by intro w; go_simp
  have h4 : ∀ w : World, (sizeOf 4).run Tryz.prog w = .ok 1 w := by intro w; go_simp
  have h5 : ∀ w : World, (sizeOf 32).run Tryz.prog w = .ok 1 w := by intro w; go_simp
  simp only [Program.fieldsOf, Tryz.underlying34]
  simp only [List.mapM_toArray, List.mapM_cons, List.mapM_nil, Sem.run_bind, Sem.run_pure, h3, h4, h5, Result.andThen, Sem.run_map]
theorem geo_places (w : World) : (Array.mapM (fun f : Field => (do pure (f.offset, ← sizeOf f.type) : Sem (Nat × Nat))) (Tryz.prog.fieldsOf 23)).run Tryz.prog w = .ok #[(0, 1), (1, 1), (2, 1), (3, 1), (4, 1)] w := by
  have h3 : ∀ w : World, (sizeOf 3).run Tryz.prog w = .ok 1 w := by intro w; go_simp
  simp only [Program.fieldsOf, Tryz.underlying23]
  simp only [List.mapM_toArray, List.mapM_cons, List.mapM_nil, Sem.run_bind, Sem.run_pure, h3, Result.andThen, Sem.run_map]
theorem fill_one (pl : Nat → Option (Nat × Nat)) (pre rest : List Value) (x0 v : Value) (hv : v.cells = #[v]) (i off : Nat) (more : List (Nat × Value)) (hpl : pl i = some (off, 1)) (hoff : pre.length = off) :
    Instr.fill pl (pre ++ x0 :: rest).toArray ((i, v) :: more) = Instr.fill pl (pre ++ v :: rest).toArray more := by
  conv => lhs; unfold Instr.fill
  simp only [hpl, hv]
  rw [if_neg (by simp; omega)]
  congr 1
  subst hoff
  simp
theorem run_build_mast (w : World) (m : Mst) :
    (Instr.build 34 #[(0, .bool m.foot), (1, .int .i64 m.gen), (2, .int .i64 m.epoch), (3, .int .i64 m.seq), (4, .int .i64 m.pages), (5, .int .u32 m.sum)]).run Tryz.prog w = .ok (.agg (mcs m).toArray) w := by
  have hp := mast_places w
  simp only [Program.fieldsOf, Tryz.underlying34] at hp
  unfold Instr.build
  simp only [Sem.run_bind, zero_mast w, Result.andThen, run_underlying Tryz.underlying34, hp]
  have e : Instr.fill (fun x => #[((0, 1) : Nat × Nat), (1, 1), (2, 1), (3, 1), (4, 1), (5, 1)][x]?) (Value.agg (mcs m0).toArray).cells [(0, .bool m.foot), (1, .int .i64 m.gen), (2, .int .i64 m.epoch), (3, .int .i64 m.seq), (4, .int .i64 m.pages), (5, .int .u32 m.sum)] = some (mcs m).toArray := by
    refine (fill_one _ [] _ _ _ rfl 0 0 _ rfl rfl).trans ?_
    refine (fill_one _ [_] _ _ _ rfl 1 1 _ rfl rfl).trans ?_
    refine (fill_one _ [_, _] _ _ _ rfl 2 2 _ rfl rfl).trans ?_
    refine (fill_one _ [_, _, _] _ _ _ rfl 3 3 _ rfl rfl).trans ?_
    refine (fill_one _ [_, _, _, _] _ _ _ rfl 4 4 _ rfl rfl).trans ?_
    exact (fill_one _ [_, _, _, _, _] _ _ _ rfl 5 5 _ rfl rfl).trans rfl
  rw [e]
  rfl
theorem run_build_mast0 (w : World) : (Instr.build 34 #[]).run Tryz.prog w = .ok (.agg (mcs m0).toArray) w := by
  have hp := mast_places w
  simp only [Program.fieldsOf, Tryz.underlying34] at hp
  unfold Instr.build
  simp only [Sem.run_bind, zero_mast w, Result.andThen, run_underlying Tryz.underlying34, hp]
  rfl
theorem run_build_geo (w : World) (g : Ge) :
    (Instr.build 23 #[(0, .int .i64 g.conv), (1, .int .i64 g.soft), (2, .int .i64 g.seq), (3, .int .i64 g.size), (4, .int .i64 g.opn)]).run Tryz.prog w = .ok (.agg (gcs g).toArray) w := by
  have hp := geo_places w
  simp only [Program.fieldsOf, Tryz.underlying23] at hp
  unfold Instr.build
  simp only [Sem.run_bind, zero_geo w, Result.andThen, run_underlying Tryz.underlying23, hp]
  have e : Instr.fill (fun x => #[((0, 1) : Nat × Nat), (1, 1), (2, 1), (3, 1), (4, 1)][x]?) (Value.agg (gcs g0).toArray).cells [(0, .int .i64 g.conv), (1, .int .i64 g.soft), (2, .int .i64 g.seq), (3, .int .i64 g.size), (4, .int .i64 g.opn)] = some (gcs g).toArray := by
    refine (fill_one _ [] _ _ _ rfl 0 0 _ rfl rfl).trans ?_
    refine (fill_one _ [_] _ _ _ rfl 1 1 _ rfl rfl).trans ?_
    refine (fill_one _ [_, _] _ _ _ rfl 2 2 _ rfl rfl).trans ?_
    refine (fill_one _ [_, _, _] _ _ _ rfl 3 3 _ rfl rfl).trans ?_
    exact (fill_one _ [_, _, _, _] _ _ _ rfl 4 4 _ rfl rfl).trans rfl
  rw [e]
  rfl
theorem run_build_geo0 (w : World) : (Instr.build 23 #[]).run Tryz.prog w = .ok (.agg (gcs g0).toArray) w := by
  have hp := geo_places w
  simp only [Program.fieldsOf, Tryz.underlying23] at hp
  unfold Instr.build
  simp only [Sem.run_bind, zero_geo w, Result.andThen, run_underlying Tryz.underlying23, hp]
  rfl
section
variable {w : World} {ops : Array Oper} {rest : List Oper} {o : Oper} {a : Act} {Q : Exit → Act → World → Prop}
theorem wpList_ms_zero (hgd : o.guard = none) (ho : o.op = .build 34 #[]) (h : wpList Tryz.prog ops Q rest (a.put o.dst (.agg (mcs m0).toArray)) w) : wpList Tryz.prog ops Q (o :: rest) a w := by
  refine wpList_plain hgd fun K hK => ?_
  unfold Oper.wp
  simp [execOp, ho, run_build_mast0 w, Result.andThen]
  exact hK _ _ h
theorem wpList_ge_zero (hgd : o.guard = none) (ho : o.op = .build 23 #[]) (h : wpList Tryz.prog ops Q rest (a.put o.dst (.agg (gcs g0).toArray)) w) : wpList Tryz.prog ops Q (o :: rest) a w := by
  refine wpList_plain hgd fun K hK => ?_
  unfold Oper.wp
  simp [execOp, ho, run_build_geo0 w, Result.andThen]
  exact hK _ _ h
end
end Go.Proofs.YtgnpohkippegpaaGreat

/-
  Package page: Lay.
-/
namespace Go.Proofs.YtgnpohkippegpaaGreat
open Go.RowKit Word Crc Leaf
set_option linter.unusedVariables false

/-- what stands in memory while Lay works -/
def LfSt (w W : World) (l : Lf) (p : List Int) : Prop :=
  Box W w.heap.size 86 (lcs l) ∧ Box W (w.heap.size + 1) 43 (bs pg0) ∧ Box W (w.heap.size + 1 + 1) 43 (bs p) ∧ Below w.heap.size w W ∧ p.length = 64
theorem LfSt.drew {w W : World} {l : Lf} {p : List Int} (h : LfSt w W l p) : LfSt w W.drew l p := ⟨h.1, h.2.1, h.2.2.1, h.2.2.2.1.drew, h.2.2.2.2⟩
theorem LfSt.begin {w w1 w2 w3 : World} {l : Lf} (x0 : Box w1 w.heap.size 86 (lcs l)) (hB1 : Below w.heap.size w w1) (hs1 : w1.heap.size = w.heap.size + 1) (x1 : Box w2 w1.heap.size 43 (bs pg0)) (hB2 : Below w1.heap.size w1 w2) (hs2 : w2.heap.size = w1.heap.size + 1)
    (x2 : Box w3 w2.heap.size 43 (bs pg0)) (hB3 : Below w2.heap.size w2 w3) :
    LfSt w (w3.setCell ⟨w.heap.size + 1 + 1, 0, none⟩ (.int .u8 128)) l (pg0.set 0 128) ∧ w3.cell? ⟨w.heap.size + 1 + 1, 0, none⟩ = some (.int .u8 0) ∧ w3.frozen? ⟨w.heap.size + 1 + 1, 0, none⟩ = false := by
  rw [hs2, hs1] at x2
  rw [hs1] at x1
  have y0 := (x0.below hB2 (by omega)).below hB3 (by omega)
  have e : ∀ x, x ≠ w.heap.size + 1 + 1 → (w3.setCell ⟨w.heap.size + 1 + 1, 0, none⟩ (.int .u8 128)).heap[x]? = w3.heap[x]? := fun x hx => heap_setCell_other _ _ _ _ hx
  refine ⟨⟨y0.same (e _ (by omega)), (x1.below hB3 (by omega)).same (e _ (by omega)), ?_, (bthen (bthen hB1 hB2) hB3).setCell (by show w.heap.size ≤ w.heap.size + 1 + 1; omega) _, by simp⟩, (x2.cell 0).trans rfl, x2.frozen 0⟩
  have := x2.set 0 (.int .u8 128)
  rwa [← bs_set] at this
theorem LfSt.put {w W W' : World} {l : Lf} {p p' : List Int} (h : LfSt w W l p) (hb : Box W' (w.heap.size + 1 + 1) 43 (bs p')) (hg : W.grownBy W' (some (w.heap.size + 1 + 1))) (hl : p'.length = 64) : LfSt w W' l p' :=
  ⟨h.1.grown hg (by omega), h.2.1.grown hg (by omega), hb, below_stored h.2.2.2.1 hg h.2.2.2.1.size (by omega), hl⟩
theorem lput_any (g at_ n : Nat) (x : Int) (zs : List Int) (w : World) (h8 : n ≤ 8) (hn : 1 ≤ n) (hf : at_ + n ≤ 64) (hl : zs.length = 64) (hb : Box w g 43 (bs zs)) :
    Calls Tryz.prog 75 #[.slice (some ⟨g, 0, none⟩) 64 64, .int .i64 at_, .int .i64 n, .int .u64 x] w fun ee w' => ee = .returned (.bool true) ∧ Box w' g 43 (bs (put zs at_ n x)) ∧ w.grownBy w' (some g) :=
  (put_yes (e := 43) g g 64 64 at_ n x w (by decide) h8 hn hf zs (hb.own (by rw [bs_length, hl]) (by decide) g (Nat.le_refl _))).mono fun e w' h => ⟨h.1, Box.of_own h.2.1 (by omega), h.2.2⟩

set_option maxRecDepth 100000 in
set_option maxHeartbeats 2000000 in
theorem lflay_any (l : Lf) (w : World) (hk : Ok l) (hi : In l) :
    Calls Tryz.prog 50 #[.agg (lcs l).toArray] w fun e w' => e = .returned (.agg (bs (layL l)).toArray) ∧ Below w.heap.size w w' := by
  obtain ⟨m, hm, hsz⟩ := big_size (P := Tryz.prog) (t := 43) (s := 64) (by kernel_rfl)
  obtain ⟨mt, hmt, hszt⟩ := big_size (P := Tryz.prog) (t := 84) (s := 10) (by kernel_rfl)
  have hm0 : ¬ m = 0 := by omega
  have hmt0 : ¬ mt = 0 := by omega
  have HM := Lib.hid (And.intro hm hmt)
  have HI := Lib.hid hi
  have HK := Lib.hid hk
  have HX := Lib.hid fun w' (k : Nat) (hk : k < 10) => run_index_is w' 84 3 10 l.places k Tryz.underlying84 Tryz.underlying3 size_int hi hk
  clear hm hmt hi hk
  go_enter Tryz.func50, Tryz.ntmps50
  go_wp2_with (first
    | ((with_reducible refine wpList_lf_box (o := ⟨some 1, .box _ _, _, _, _, _⟩) rfl _ rfl l rfl ?_); intro w1 x0 hB1 hs1)
    | ((with_reducible refine wpList_pg_alloc (o := ⟨some 2, .alloc _, _, _, _, _⟩) rfl rfl ?_); intro w2 x1 hB2 hs2)
    | ((with_reducible refine wpList_pg_alloc (o := ⟨some 3, .alloc _, _, _, _, _⟩) rfl rfl ?_); intro w3 x2 hB3 hs3; obtain ⟨L, p0, f0⟩ := LfSt.begin x0 hB1 hs1 x1 hB2 hs2 x2 hB3; rw [hs2, hs1]; clear hs1 hs2 hs3 x0 x1 x2 hB1 hB2 hB3)
    | fail)
  clear p0 f0
  generalize w3.setCell _ _ = W at L ⊢
  -- gen
  refine wp_region_class_tail (fun w' => LfSt w w' l (pg0.set 0 128)) 4 (by kernel_rfl) (by kernel_rfl) L.drew ?_
  intro X hX f hf hg
  have c0 := fun x => (hf x).1.lf.1
  have h1 := HK.out.1
  have Hf := Lib.hid hf
  clear hf hg L
  simp only [List.take_succ_cons, List.take_zero, List.drop_succ_cons, List.drop_zero]
  repeat (go_big_quiet_step (fail))
  refine wpQuiet_nil ?_
  rintro _ ⟨x, rfl⟩
  have L := Hf.out x
  clear c0 Hf
  generalize f x = W2 at L ⊢
  clear hX
  go_wp2_with fail
  refine (lput_any (w.heap.size + 1 + 1) 1 8 l.gen (pg0.set 0 128) W2 (by omega) (by omega) (by omega) L.2.2.2.2 L.2.2.1).mono ?_
  rintro e w4 ⟨rfl, hb, hg⟩
  rw [stage_gen] at hb
  replace L := L.put hb hg (by simp [le_length])
  clear hb hg h1
  generalize w4 = W at L ⊢
  -- index
  go_wp2_with fail
  refine wp_region_class_tail (fun w' => LfSt w w' l ([128] ++ le 8 l.gen ++ List.replicate 55 0)) 4 (by kernel_rfl) (by kernel_rfl) L.drew ?_
  intro X hX f hf hg
  have c0 := fun x => (hf x).1.lf.2
  have h1 := HK.out.2.1
  have Hf := Lib.hid hf
  clear hf hg L
  simp only [List.take_succ_cons, List.take_zero, List.drop_succ_cons, List.drop_zero]
  repeat (go_big_quiet_step (fail))
  refine wpQuiet_nil ?_
  rintro _ ⟨x, rfl⟩
  have L := Hf.out x
  clear c0 Hf
  generalize f x = W2 at L ⊢
  clear hX
  go_wp2_with fail
  refine (lput_any (w.heap.size + 1 + 1) 9 4 l.index ([128] ++ le 8 l.gen ++ List.replicate 55 0) W2 (by omega) (by omega) (by omega) L.2.2.2.2 L.2.2.1).mono ?_
  rintro e w4 ⟨rfl, hb, hg⟩
  rw [stage_index] at hb
  replace L := L.put hb hg (stage_length l HI.out 0 (by omega))
  clear hb hg h1
  generalize w4 = W at L ⊢
  -- places
  have hld := big_load0 Tryz.prog w.heap.size 2 (is l.places) mt (by rw [is_length, HI.out, HM.out.2]) _ L.1.lfPlaces
  have HL := Lib.hid L
  clear L
  generalize hP : is l.places = P at *
  have HP := Lib.hid hP
  clear hP
  go_wp2_with fail
  go_loopw [19] (fun i wr => ∃ k : Nat, k ≤ 10 ∧ i = .int .i64 k ∧ LfSt w wr l (stage l k)) (fun i _ => 10 - (intOf i).toNat)
  case atStart => exact ⟨0, by omega, rfl, HL.out⟩
  case round =>
    clear HL hld
    obtain ⟨k, hk, rfl, L⟩ := hrel
    by_cases hlt : k < 10
    · have hix := fun w' => HX.out w' k hlt
      have HPl := Lib.hid (HK.out.2.2 _ (getD_mem (show k < l.places.length by rw [HI.out]; exact hlt)))
      have h1 := HPl.out
      have HS := Lib.hid (stage_place l HI.out k hlt)
      generalize hx : l.places.getD k 0 = x at *
      have HXe := Lib.hid hx
      clear hx
      have hcut := cut32_yes h1
      go_wp2_with fail
      refine wp_region_class_tail (fun w' => LfSt w w' l (stage l k)) 6 (by kernel_rfl) (by kernel_rfl) L.drew ?_
      intro X hX f hf hg
      have HPA := Lib.hid fun w' => placeAt_any k w' hk
      have hp0 := h1.1
      have hp1 := h1.2
      have Hf := Lib.hid hf
      clear hf hg L
      simp only [List.take_succ_cons, List.take_zero, List.drop_succ_cons, List.drop_zero]
      repeat (go_big_quiet_step ((go_at_call 76; exact calls_class (HPA.out _) (fun _ h => ⟨_, h.symm⟩))))
      refine wpQuiet_nil ?_
      rintro _ ⟨y, rfl⟩
      have L := Hf.out y
      clear Hf
      generalize f y = W2 at L ⊢
      clear hX
      go_wp2_with fail
      refine (lput_any (w.heap.size + 1 + 1) (13 + 4 * k) 4 x (stage l k) W2 (by omega) (by omega) (by omega) L.2.2.2.2 L.2.2.1).mono ?_
      rintro e w4 ⟨rfl, hb, hg⟩
      rw [HS.out] at hb
      have HL := Lib.hid (L.put hb hg (stage_length l HI.out (k + 1) (by omega)))
      clear hb hg L
      go_wp2
      go_roundw
      case rel => exact ⟨k + 1, by omega, by go_num, HL.out⟩
      case measure => simp [intOf]; omega
    · obtain rfl : k = 10 := by omega
      have HO := Lib.hid (front_octets l)
      have h60 := Lib.hid (front_length l HI.out)
      have HLL := Lib.hid (layL_length l HI.out)
      have hrd : Rd wr wr.heap.size (some ⟨w.heap.size + 1 + 1, 0, none⟩) (bs (front l)) := by
        have := (Rd.own (L.2.2.1.own (n := 64) (by rw [bs_length, L.2.2.2.2]) (by decide) 0 (Nat.zero_le _))).front (k := 60)
        rwa [← bs_take, stage_end l HI.out] at this
      have HSe := Lib.hid (seal_any (some ⟨w.heap.size + 1 + 1, 0, none⟩) 60 64 (front l) wr (by decide) h60.out HO.out hrd)
      have HL := Lib.hid L
      clear L hrd HX
      go_wp2_with fail
      refine HSe.out.mono ?_
      rintro e w5 ⟨A', c', rfl, hown, hb5⟩
      clear HSe
      have hown : w5.ownsRow wr.heap.size 5 1 (.slice A' 64 c') 64 (bs (layL l)) := hown
      obtain ⟨g, rfl, _, _⟩ := own_at hown (by omega)
      have HB := Lib.hid (bthen HL.out.2.2.2.1 hb5)
      have HX := Lib.hid (HL.out.2.1.on hb5)
      generalize hS : layL l = S at *
      have HS2 := Lib.hid hS
      clear hS
      rw [show (60 : Nat) + 4 = 64 from rfl]
      have hat := fun w' => run_arrayAt (P := Tryz.prog) w' 43 _ 64 (some ⟨g, 0, none⟩) 64 c' Tryz.underlying43 (by decide)
      have hcell : w5.rangeAt g 0 (bs S) := fun j v hj => by
        rw [Nat.zero_add]
        have hj2 := (List.getElem?_eq_some_iff.1 hj).1
        rw [bs_length, HLL.out] at hj2
        exact (hown.cellAt j hj2).trans hj
      have hldS := big_load0 Tryz.prog g 0 (bs S) m (by rw [bs_length, HLL.out, HM.out.1]) _ hcell
      clear hown hcell hb5 HL
      go_wp2_with (first
        | ((with_reducible refine wpList_pg_store (o := ⟨none, .store _ _ _, _, _, _, _⟩) rfl _ _ rfl (w.heap.size + 1) S pg0 HLL.out rfl rfl rfl HX.out ?_); intro w9 hb9 hg9 _)
        | fail)
      have hldF := big_load0 Tryz.prog (w.heap.size + 1) 0 (bs S) m (by rw [bs_length, HLL.out, HM.out.1]) _ hb9.range0
      generalize hR : bs S = R at hldF ⊢
      exact bodyPost_ret (v := .agg R.toArray) (by simp [results, Tryz.results50, go_sem, hsz, hldF]) rfl ⟨by rw [HS2.out, hR], below_stored HB.out hg9 HB.out.size (by omega)⟩
end Go.Proofs.YtgnpohkippegpaaGreat

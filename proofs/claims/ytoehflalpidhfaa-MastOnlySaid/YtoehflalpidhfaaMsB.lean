/-
  Masts and measures as blocks known whole: made, read, laid, compared.
-/
import Derived.Test.YtoehflalpidhfaaMsM
import Derived.Test.YtoehflalpidhfaaPg
import Derived.Test.YtoehflalpidhfaaLfB
namespace Go.Proofs.Ytoehflalpidhfaa
open Go.RowKit Word Mast
set_option linter.unusedVariables false

/-- a mast's cells -/
def mcs (m : Mst) : List Value := [.bool m.foot, .int .i64 m.gen, .int .i64 m.epoch, .int .i64 m.seq, .int .i64 m.pages, .int .u32 m.sum]
theorem mcs_length (m : Mst) : (mcs m).length = 6 := rfl
theorem mcs_one (m : Mst) : ∀ u ∈ mcs m, u.oneCell' = true := by
  intro u hu
  simp only [mcs, List.mem_cons, List.not_mem_nil, or_false] at hu
  rcases hu with rfl | rfl | rfl | rfl | rfl | rfl <;> rfl
/-- a measure's cells -/
def gcs (g : Ge) : List Value := [.int .i64 g.conv, .int .i64 g.soft, .int .i64 g.seq, .int .i64 g.size, .int .i64 g.opn]
theorem gcs_length (g : Ge) : (gcs g).length = 5 := rfl
theorem gcs_one (g : Ge) : ∀ u ∈ gcs g, u.oneCell' = true := by
  intro u hu
  simp only [gcs, List.mem_cons, List.not_mem_nil, or_false] at hu
  rcases hu with rfl | rfl | rfl | rfl | rfl <;> rfl
section
variable {w : World} {b : Nat} {T : TypeId} {m : Mst} {g : Ge}
theorem Box.ms (h : Box w b T (mcs m)) : w.cell? ⟨b, 0, none⟩ = some (.bool m.foot) ∧ w.cell? ⟨b, 1, none⟩ = some (.int .i64 m.gen) ∧ w.cell? ⟨b, 2, none⟩ = some (.int .i64 m.epoch) ∧ w.cell? ⟨b, 3, none⟩ = some (.int .i64 m.seq) ∧ w.cell? ⟨b, 4, none⟩ = some (.int .i64 m.pages) ∧ w.cell? ⟨b, 5, none⟩ = some (.int .u32 m.sum) :=
  ⟨h.cell 0, h.cell 1, h.cell 2, h.cell 3, h.cell 4, h.cell 5⟩
theorem Box.ge (h : Box w b T (gcs g)) : w.cell? ⟨b, 0, none⟩ = some (.int .i64 g.conv) ∧ w.cell? ⟨b, 1, none⟩ = some (.int .i64 g.soft) ∧ w.cell? ⟨b, 2, none⟩ = some (.int .i64 g.seq) ∧ w.cell? ⟨b, 3, none⟩ = some (.int .i64 g.size) ∧ w.cell? ⟨b, 4, none⟩ = some (.int .i64 g.opn) :=
  ⟨h.cell 0, h.cell 1, h.cell 2, h.cell 3, h.cell 4⟩
end
theorem guard_mast : Try.prog.eqGuardType Try.prog.depth 24 = false := by kernel_rfl
theorem guard_geo : Try.prog.eqGuardType Try.prog.depth 38 = false := by kernel_rfl
theorem zero_mast (w : World) : (zeroValue 24).run Try.prog w = .ok (.agg (mcs m0).toArray) w :=
  (zero_of_info (P := Try.prog) (t := 24) (v := .agg (mcs m0).toArray) (n := 6) (by kernel_rfl)).1 w
theorem zero_geo (w : World) : (zeroValue 38).run Try.prog w = .ok (.agg (gcs g0).toArray) w :=
  (zero_of_info (P := Try.prog) (t := 38) (v := .agg (gcs g0).toArray) (n := 5) (by kernel_rfl)).1 w
theorem ms_size (m : Mst) : (Try.prog.info? 24).map (·.size) = some (mcs m).length := by rw [mcs_length]; kernel_rfl
theorem ge_size (g : Ge) : (Try.prog.info? 38).map (·.size) = some (gcs g).length := by rw [gcs_length]; kernel_rfl
section
variable {w : World} {ops : Array Oper} {rest : List Oper} {o : Oper} {a : Act} {Q : Exit → Act → World → Prop}
theorem wpList_ms_store (hgd : o.guard = none) (x y : Operand) (ho : o.op = .store 24 x y) (g : Nat) (r old : Mst) (hx : a.eval x = .pointer (some ⟨g, 0, none⟩)) (hy : a.eval y = .agg (mcs r).toArray) (hb : Box w g 24 (mcs old))
    (h : ∀ w', Box w' g 24 (mcs r) → w.grownBy w' (some g) → w'.heap.size = w.heap.size → wpList Try.prog ops Q rest (a.put o.dst undef) w') : wpList Try.prog ops Q (o :: rest) a w :=
  wpList_store_box w hgd _ x y ho g (mcs r) (mcs old) (ms_size r) rfl (mcs_one r) hx hy hb
    (h _ (setRow_heap w g _ _ _ _ hb) ⟨rfl, rfl, rfl, by simp [World.setRow], fun k _ hk => setRow_other w g k _ (by intro e; exact hk (by rw [e]))⟩ (by simp [World.setRow]))
theorem wpList_ms_alloc (hgd : o.guard = none) (ho : o.op = .alloc 24)
    (h : ∀ w', Box w' w.heap.size 24 (mcs m0) → Below w.heap.size w w' → w'.heap.size = w.heap.size + 1 → wpList Try.prog ops Q rest (a.put o.dst (.pointer (some ⟨w.heap.size, 0, none⟩))) w') : wpList Try.prog ops Q (o :: rest) a w :=
  wpList_alloc_box w hgd _ ho (mcs m0) zero_mast h
theorem wpList_ms_box (hgd : o.guard = none) (x : Operand) (ho : o.op = .box 24 x) (r : Mst) (hx : a.eval x = .agg (mcs r).toArray)
    (h : ∀ w', Box w' w.heap.size 24 (mcs r) → Below w.heap.size w w' → w'.heap.size = w.heap.size + 1 → wpList Try.prog ops Q rest (a.put o.dst (.pointer (some ⟨w.heap.size, 0, none⟩))) w') : wpList Try.prog ops Q (o :: rest) a w :=
  wpList_box_box w hgd _ x ho (mcs r) hx h
theorem wpList_ge_store (hgd : o.guard = none) (x y : Operand) (ho : o.op = .store 38 x y) (g : Nat) (r old : Ge) (hx : a.eval x = .pointer (some ⟨g, 0, none⟩)) (hy : a.eval y = .agg (gcs r).toArray) (hb : Box w g 38 (gcs old))
    (h : ∀ w', Box w' g 38 (gcs r) → w.grownBy w' (some g) → w'.heap.size = w.heap.size → wpList Try.prog ops Q rest (a.put o.dst undef) w') : wpList Try.prog ops Q (o :: rest) a w :=
  wpList_store_box w hgd _ x y ho g (gcs r) (gcs old) (ge_size r) rfl (gcs_one r) hx hy hb
    (h _ (setRow_heap w g _ _ _ _ hb) ⟨rfl, rfl, rfl, by simp [World.setRow], fun k _ hk => setRow_other w g k _ (by intro e; exact hk (by rw [e]))⟩ (by simp [World.setRow]))
theorem wpList_ge_alloc (hgd : o.guard = none) (ho : o.op = .alloc 38)
    (h : ∀ w', Box w' w.heap.size 38 (gcs g0) → Below w.heap.size w w' → w'.heap.size = w.heap.size + 1 → wpList Try.prog ops Q rest (a.put o.dst (.pointer (some ⟨w.heap.size, 0, none⟩))) w') : wpList Try.prog ops Q (o :: rest) a w :=
  wpList_alloc_box w hgd _ ho (gcs g0) zero_geo h
theorem wpList_ge_box (hgd : o.guard = none) (x : Operand) (ho : o.op = .box 38 x) (r : Ge) (hx : a.eval x = .agg (gcs r).toArray)
    (h : ∀ w', Box w' w.heap.size 38 (gcs r) → Below w.heap.size w w' → w'.heap.size = w.heap.size + 1 → wpList Try.prog ops Q rest (a.put o.dst (.pointer (some ⟨w.heap.size, 0, none⟩))) w') : wpList Try.prog ops Q (o :: rest) a w :=
  wpList_box_box w hgd _ x ho (gcs r) hx h
end
/-- two masts, two measures are compared -/
def msEq (a b : Mst) : Bool := a.foot == b.foot && (a.gen == b.gen && (a.epoch == b.epoch && (a.seq == b.seq && (a.pages == b.pages && a.sum == b.sum))))
theorem msEq_iff (a b : Mst) : msEq a b = true ↔ a = b := by
  cases a; cases b; simp [msEq]
def geEq (a b : Ge) : Bool := a.conv == b.conv && (a.soft == b.soft && (a.seq == b.seq && (a.size == b.size && a.opn == b.opn)))
theorem geEq_iff (a b : Ge) : geEq a b = true ↔ a = b := by
  cases a; cases b; simp [geEq]
theorem equal_mast (w : World) (a b : Mst) : (Op.equalIn 10000 24 (.agg (mcs a).toArray) (.agg (mcs b).toArray)).run Try.prog w = .ok (msEq a b) w := by
  have hI : ∀ (r : Mst) (t : TypeId) (k : Nat) (v : Value) (w' : World), (isAgg t).run Try.prog w' = .ok false w' → (mcs r).toArray[k]? = some v → (part t (mcs r).toArray k).run Try.prog w' = .ok v w' := fun r t k v w' hg h => by
    simp [part, hg, h]
  have gi : ∀ w', (isAgg 3).run Try.prog w' = .ok false w' := fun w' => by simp [isAgg, run_underlying Try.underlying3]
  have gb : ∀ w', (isAgg 4).run Try.prog w' = .ok false w' := fun w' => by simp [isAgg, run_underlying Try.underlying4]
  have gu : ∀ w', (isAgg 22).run Try.prog w' = .ok false w' := fun w' => by simp [isAgg, run_underlying Try.underlying22]
  have a0 := fun w' => hI a _ 0 (.bool a.foot) w' (gb w') rfl
  have a1 := fun w' => hI a _ 1 (.int .i64 a.gen) w' (gi w') rfl
  have a2 := fun w' => hI a _ 2 (.int .i64 a.epoch) w' (gi w') rfl
  have a3 := fun w' => hI a _ 3 (.int .i64 a.seq) w' (gi w') rfl
  have a4 := fun w' => hI a _ 4 (.int .i64 a.pages) w' (gi w') rfl
  have a5 := fun w' => hI a _ 5 (.int .u32 a.sum) w' (gu w') rfl
  have b0 := fun w' => hI b _ 0 (.bool b.foot) w' (gb w') rfl
  have b1 := fun w' => hI b _ 1 (.int .i64 b.gen) w' (gi w') rfl
  have b2 := fun w' => hI b _ 2 (.int .i64 b.epoch) w' (gi w') rfl
  have b3 := fun w' => hI b _ 3 (.int .i64 b.seq) w' (gi w') rfl
  have b4 := fun w' => hI b _ 4 (.int .i64 b.pages) w' (gi w') rfl
  have b5 := fun w' => hI b _ 5 (.int .u32 b.sum) w' (gu w') rfl
  rw [run_equalIn_agg _ _ _ _ _ (by kernel_rfl) (by kernel_rfl)]
  have hi := fun (x y : Int) (w' : World) => run_equalIn_int (P := Try.prog) w' 9998 3 .i64 .i64 x y Try.underlying3
  have hu := fun (x y : Int) (w' : World) => run_equalIn_int (P := Try.prog) w' 9998 22 .u32 .u32 x y Try.underlying22
  have hb := fun (x y : Bool) (w' : World) => run_equalIn_bool' (P := Try.prog) w' 9998 4 x y Try.underlying4
  clear hI gi gb gu
  generalize mcs a = ra at *
  generalize mcs b = rb at *
  simp only [Op.eqFields, Program.fieldsOf, Try.underlying24]
  simp [a0, a1, a2, a3, a4, a5, b0, b1, b2, b3, b4, b5, hi, hu, hb]
  unfold msEq
  by_cases h0 : a.foot = b.foot
  case neg => simp [h0]
  by_cases h1 : a.gen = b.gen
  case neg => simp [h0, h1]
  by_cases h2 : a.epoch = b.epoch
  case neg => simp [h0, h1, h2]
  by_cases h3 : a.seq = b.seq
  case neg => simp [h0, h1, h2, h3]
  by_cases h4 : a.pages = b.pages
  case neg => simp [h0, h1, h2, h3, h4]
  by_cases h5 : a.sum = b.sum
  case neg => simp [h0, h1, h2, h3, h4, h5]
  simp [h0, h1, h2, h3, h4, h5]
theorem equal_geo (w : World) (a b : Ge) : (Op.equalIn 10000 38 (.agg (gcs a).toArray) (.agg (gcs b).toArray)).run Try.prog w = .ok (geEq a b) w := by
  have hI : ∀ (r : Ge) (k : Nat) (v : Value) (w' : World), (gcs r).toArray[k]? = some v → (part 3 (gcs r).toArray k).run Try.prog w' = .ok v w' := fun r k v w' h => by
    simp [part, isAgg, run_underlying Try.underlying3, h]
  have a0 := fun w' => hI a 0 (.int .i64 a.conv) w' rfl
  have a1 := fun w' => hI a 1 (.int .i64 a.soft) w' rfl
  have a2 := fun w' => hI a 2 (.int .i64 a.seq) w' rfl
  have a3 := fun w' => hI a 3 (.int .i64 a.size) w' rfl
  have a4 := fun w' => hI a 4 (.int .i64 a.opn) w' rfl
  have b0 := fun w' => hI b 0 (.int .i64 b.conv) w' rfl
  have b1 := fun w' => hI b 1 (.int .i64 b.soft) w' rfl
  have b2 := fun w' => hI b 2 (.int .i64 b.seq) w' rfl
  have b3 := fun w' => hI b 3 (.int .i64 b.size) w' rfl
  have b4 := fun w' => hI b 4 (.int .i64 b.opn) w' rfl
  rw [run_equalIn_agg _ _ _ _ _ (by kernel_rfl) (by kernel_rfl)]
  have hi := fun (x y : Int) (w' : World) => run_equalIn_int (P := Try.prog) w' 9998 3 .i64 .i64 x y Try.underlying3
  clear hI
  generalize gcs a = ra at *
  generalize gcs b = rb at *
  simp only [Op.eqFields, Program.fieldsOf, Try.underlying38]
  simp [a0, a1, a2, a3, a4, b0, b1, b2, b3, b4, hi]
  unfold geEq
  by_cases h0 : a.conv = b.conv
  case neg => simp [h0]
  by_cases h1 : a.soft = b.soft
  case neg => simp [h0, h1]
  by_cases h2 : a.seq = b.seq
  case neg => simp [h0, h1, h2]
  by_cases h3 : a.size = b.size
  case neg => simp [h0, h1, h2, h3]
  by_cases h4 : a.opn = b.opn
  case neg => simp [h0, h1, h2, h3, h4]
  simp [h0, h1, h2, h3, h4]

/-! both are built of their parts -/
theorem mast_places (w : World) : (Array.mapM (fun f : Field => (do pure (f.offset, ← sizeOf f.type) : Sem (Nat × Nat))) (Try.prog.fieldsOf 24)).run Try.prog w = .ok #[(0, 1), (1, 1), (2, 1), (3, 1), (4, 1), (5, 1)] w := by
  have h3 : ∀ w : World, (sizeOf 3).run Try.prog w = .ok 1 w := by intro w; go_simp
  have h4 : ∀ w : World, (sizeOf 4).run Try.prog w = .ok 1 w := by intro w; go_simp
  have h5 : ∀ w : World, (sizeOf 22).run Try.prog w = .ok 1 w := by intro w; go_simp
  simp only [Program.fieldsOf, Try.underlying24]
  simp only [List.mapM_toArray, List.mapM_cons, List.mapM_nil, Sem.run_bind, Sem.run_pure, h3, h4, h5, Result.andThen, Sem.run_map]
theorem geo_places (w : World) : (Array.mapM (fun f : Field => (do pure (f.offset, ← sizeOf f.type) : Sem (Nat × Nat))) (Try.prog.fieldsOf 38)).run Try.prog w = .ok #[(0, 1), (1, 1), (2, 1), (3, 1), (4, 1)] w := by
  have h3 : ∀ w : World, (sizeOf 3).run Try.prog w = .ok 1 w := by intro w; go_simp
  simp only [Program.fieldsOf, Try.underlying38]
  simp only [List.mapM_toArray, List.mapM_cons, List.mapM_nil, Sem.run_bind, Sem.run_pure, h3, Result.andThen, Sem.run_map]
theorem fill_one (pl : Nat → Option (Nat × Nat)) (pre rest : List Value) (x0 v : Value) (hv : v.cells = #[v]) (i off : Nat) (more : List (Nat × Value)) (hpl : pl i = some (off, 1)) (hoff : pre.length = off) :
    Instr.fill pl (pre ++ x0 :: rest).toArray ((i, v) :: more) = Instr.fill pl (pre ++ v :: rest).toArray more := by
  conv => lhs; unfold Instr.fill
  simp only [hpl, hv]
  rw [if_neg (by simp; omega)]
  congr 1
  subst hoff
  simp
theorem run_build_mast (w : World) (m : Mst) :
    (Instr.build 24 #[(0, .bool m.foot), (1, .int .i64 m.gen), (2, .int .i64 m.epoch), (3, .int .i64 m.seq), (4, .int .i64 m.pages), (5, .int .u32 m.sum)]).run Try.prog w = .ok (.agg (mcs m).toArray) w := by
  have hp := mast_places w
  simp only [Program.fieldsOf, Try.underlying24] at hp
  unfold Instr.build
  simp only [Sem.run_bind, zero_mast w, Result.andThen, run_underlying Try.underlying24, hp]
  have e : Instr.fill (fun x => #[((0, 1) : Nat × Nat), (1, 1), (2, 1), (3, 1), (4, 1), (5, 1)][x]?) (Value.agg (mcs m0).toArray).cells [(0, .bool m.foot), (1, .int .i64 m.gen), (2, .int .i64 m.epoch), (3, .int .i64 m.seq), (4, .int .i64 m.pages), (5, .int .u32 m.sum)] = some (mcs m).toArray := by
    refine (fill_one _ [] _ _ _ rfl 0 0 _ rfl rfl).trans ?_
    refine (fill_one _ [_] _ _ _ rfl 1 1 _ rfl rfl).trans ?_
    refine (fill_one _ [_, _] _ _ _ rfl 2 2 _ rfl rfl).trans ?_
    refine (fill_one _ [_, _, _] _ _ _ rfl 3 3 _ rfl rfl).trans ?_
    refine (fill_one _ [_, _, _, _] _ _ _ rfl 4 4 _ rfl rfl).trans ?_
    exact (fill_one _ [_, _, _, _, _] _ _ _ rfl 5 5 _ rfl rfl).trans rfl
  rw [e]
  rfl
theorem run_build_mast0 (w : World) : (Instr.build 24 #[]).run Try.prog w = .ok (.agg (mcs m0).toArray) w := by
  have hp := mast_places w
  simp only [Program.fieldsOf, Try.underlying24] at hp
  unfold Instr.build
  simp only [Sem.run_bind, zero_mast w, Result.andThen, run_underlying Try.underlying24, hp]
  rfl
theorem run_build_geo (w : World) (g : Ge) :
    (Instr.build 38 #[(0, .int .i64 g.conv), (1, .int .i64 g.soft), (2, .int .i64 g.seq), (3, .int .i64 g.size), (4, .int .i64 g.opn)]).run Try.prog w = .ok (.agg (gcs g).toArray) w := by
  have hp := geo_places w
  simp only [Program.fieldsOf, Try.underlying38] at hp
  unfold Instr.build
  simp only [Sem.run_bind, zero_geo w, Result.andThen, run_underlying Try.underlying38, hp]
  have e : Instr.fill (fun x => #[((0, 1) : Nat × Nat), (1, 1), (2, 1), (3, 1), (4, 1)][x]?) (Value.agg (gcs g0).toArray).cells [(0, .int .i64 g.conv), (1, .int .i64 g.soft), (2, .int .i64 g.seq), (3, .int .i64 g.size), (4, .int .i64 g.opn)] = some (gcs g).toArray := by
    refine (fill_one _ [] _ _ _ rfl 0 0 _ rfl rfl).trans ?_
    refine (fill_one _ [_] _ _ _ rfl 1 1 _ rfl rfl).trans ?_
    refine (fill_one _ [_, _] _ _ _ rfl 2 2 _ rfl rfl).trans ?_
    refine (fill_one _ [_, _, _] _ _ _ rfl 3 3 _ rfl rfl).trans ?_
    exact (fill_one _ [_, _, _, _] _ _ _ rfl 4 4 _ rfl rfl).trans rfl
  rw [e]
  rfl
theorem run_build_geo0 (w : World) : (Instr.build 38 #[]).run Try.prog w = .ok (.agg (gcs g0).toArray) w := by
  have hp := geo_places w
  simp only [Program.fieldsOf, Try.underlying38] at hp
  unfold Instr.build
  simp only [Sem.run_bind, zero_geo w, Result.andThen, run_underlying Try.underlying38, hp]
  rfl
section
variable {w : World} {ops : Array Oper} {rest : List Oper} {o : Oper} {a : Act} {Q : Exit → Act → World → Prop}
theorem wpList_ms_zero (hgd : o.guard = none) (ho : o.op = .build 24 #[]) (h : wpList Try.prog ops Q rest (a.put o.dst (.agg (mcs m0).toArray)) w) : wpList Try.prog ops Q (o :: rest) a w := by
  refine wpList_plain hgd fun K hK => ?_
  unfold Oper.wp
  simp [execOp, ho, run_build_mast0 w, Result.andThen]
  exact hK _ _ h
theorem wpList_ge_zero (hgd : o.guard = none) (ho : o.op = .build 38 #[]) (h : wpList Try.prog ops Q rest (a.put o.dst (.agg (gcs g0).toArray)) w) : wpList Try.prog ops Q (o :: rest) a w := by
  refine wpList_plain hgd fun K hK => ?_
  unfold Oper.wp
  simp [execOp, ho, run_build_geo0 w, Result.andThen]
  exact hK _ _ h
end
end Go.Proofs.Ytoehflalpidhfaa

/-
  Records as blocks known whole: made, read, laid, compared.
-/
import Derived.Test.YtkbgogofedppgaaRc0
import Derived.Test.YtkbgogofedppgaaPg
namespace Go.Proofs.Ytkbgogofedppgaa
open Go.RowKit Word Rec
set_option linter.unusedVariables false

/-- a record's cells -/
def rcs (r : Rc) : List Value := .int .i64 r.kind :: .int .i64 r.epoch :: .int .i64 r.seq :: .int .i64 r.block :: .int .i64 r.count :: bs r.data
theorem rcs_length {r : Rc} (h : r.data.length = 32) : (rcs r).length = 37 := by simp [rcs, bs_length, h]
theorem rcs_one (r : Rc) : ∀ u ∈ rcs r, u.oneCell' = true := by
  intro u hu
  simp only [rcs, List.mem_cons] at hu
  rcases hu with rfl | rfl | rfl | rfl | rfl | hu
  · rfl
  · rfl
  · rfl
  · rfl
  · rfl
  · exact bs_one _ u hu
theorem rcs_inj {a b : Rc} (h : rcs a = rcs b) : a = b := by
  unfold rcs at h
  injection h with h0 h
  injection h with h1 h
  injection h with h2 h
  injection h with h3 h
  injection h with h4 h
  have h5 := bs_inj h
  injection h0 with _ h0
  injection h1 with _ h1
  injection h2 with _ h2
  injection h3 with _ h3
  injection h4 with _ h4
  cases a; cases b; simp_all
section
variable {w : World} {b : Nat} {T : TypeId} {r : Rc}
theorem Box.rc (h : Box w b T (rcs r)) : w.cell? ⟨b, 0, none⟩ = some (.int .i64 r.kind) ∧ w.cell? ⟨b, 1, none⟩ = some (.int .i64 r.epoch) ∧ w.cell? ⟨b, 2, none⟩ = some (.int .i64 r.seq) ∧ w.cell? ⟨b, 3, none⟩ = some (.int .i64 r.block) ∧ w.cell? ⟨b, 4, none⟩ = some (.int .i64 r.count) :=
  ⟨h.cell 0, h.cell 1, h.cell 2, h.cell 3, h.cell 4⟩
theorem Box.rcData (h : Box w b T (rcs r)) : w.rangeAt b 5 (bs r.data) := h.range 5 _ fun j v hj => by
  rw [show 5 + j = j + 1 + 1 + 1 + 1 + 1 by omega]
  exact hj
end

theorem equal_data (w : World) (xs ys : List Int) (hx : xs.length = 32) (hy : ys.length = 32) : (Op.equalIn 10000 37 (.agg (bs xs).toArray) (.agg (bs ys).toArray)).run Try.prog w = .ok (xs == ys) w :=
  big_equal w 9998 _ _ 32 .u8 Try.underlying37 Try.underlying5 size_u8 xs ys hx hy
theorem guard_data : Try.prog.eqGuardType Try.prog.depth 37 = false := by kernel_rfl
theorem guard_rec : Try.prog.eqGuardType Try.prog.depth 39 = false := by kernel_rfl
theorem zero_data (w : World) : (zeroValue 37).run Try.prog w = .ok (.agg (bs z32).toArray) w :=
  (zero_of_info (P := Try.prog) (t := 37) (v := .agg (bs z32).toArray) (n := 32) (by kernel_rfl)).1 w
theorem zero_rec (w : World) : (zeroValue 39).run Try.prog w = .ok (.agg (rcs rc0).toArray) w :=
  (zero_of_info (P := Try.prog) (t := 39) (v := .agg (rcs rc0).toArray) (n := 37) (by kernel_rfl)).1 w
theorem build_data (w : World) : (Instr.build 37 #[]).run Try.prog w = .ok (.agg (bs z32).toArray) w := by
  unfold Instr.build
  simp only [Sem.run_bind, zero_data w, Result.andThen, run_underlying Try.underlying37, size_u8]
  rfl
theorem rc_size {r : Rc} (h : In r) : (Try.prog.info? 39).map (·.size) = some (rcs r).length := by rw [rcs_length h.1]; kernel_rfl
section
variable {w : World} {ops : Array Oper} {rest : List Oper} {o : Oper} {a : Act} {Q : Exit → Act → World → Prop}
theorem wpList_rc_load (hgd : o.guard = none) (x : Operand) (ho : o.op = .load 39 x) (g : Nat) (r : Rc) (hr : In r) (hx : a.eval x = .pointer (some ⟨g, 0, none⟩)) (hb : Box w g 39 (rcs r))
    (h : wpList Try.prog ops Q rest (a.put o.dst (.agg (rcs r).toArray)) w) : wpList Try.prog ops Q (o :: rest) a w :=
  wpList_load_box w hgd _ x ho g 0 (rcs r) _ Try.underlying39 rfl (rc_size hr) hx hb.range0 h
theorem wpList_rc_store (hgd : o.guard = none) (x y : Operand) (ho : o.op = .store 39 x y) (g : Nat) (r old : Rc) (hr : In r) (hold : In old) (hx : a.eval x = .pointer (some ⟨g, 0, none⟩)) (hy : a.eval y = .agg (rcs r).toArray) (hb : Box w g 39 (rcs old))
    (h : ∀ w', Box w' g 39 (rcs r) → w.grownBy w' (some g) → w'.heap.size = w.heap.size → wpList Try.prog ops Q rest (a.put o.dst undef) w') : wpList Try.prog ops Q (o :: rest) a w :=
  wpList_store_box w hgd _ x y ho g (rcs r) (rcs old) (rc_size hr) (by rw [rcs_length hr.1, rcs_length hold.1]) (rcs_one r) hx hy hb
    (h _ (setRow_heap w g _ _ _ _ hb) ⟨rfl, rfl, rfl, by simp [World.setRow], fun k _ hk => setRow_other w g k _ (by intro e; exact hk (by rw [e]))⟩ (by simp [World.setRow]))
theorem wpList_rc_alloc (hgd : o.guard = none) (ho : o.op = .alloc 39)
    (h : ∀ w', Box w' w.heap.size 39 (rcs rc0) → Below w.heap.size w w' → w'.heap.size = w.heap.size + 1 → wpList Try.prog ops Q rest (a.put o.dst (.pointer (some ⟨w.heap.size, 0, none⟩))) w') : wpList Try.prog ops Q (o :: rest) a w :=
  wpList_alloc_box w hgd _ ho (rcs rc0) zero_rec h
theorem wpList_rc_box (hgd : o.guard = none) (x : Operand) (ho : o.op = .box 39 x) (r : Rc) (hx : a.eval x = .agg (rcs r).toArray)
    (h : ∀ w', Box w' w.heap.size 39 (rcs r) → Below w.heap.size w w' → w'.heap.size = w.heap.size + 1 → wpList Try.prog ops Q rest (a.put o.dst (.pointer (some ⟨w.heap.size, 0, none⟩))) w') : wpList Try.prog ops Q (o :: rest) a w :=
  wpList_box_box w hgd _ x ho (rcs r) hx h
end
/-- two records are compared -/
def rcEq (a b : Rc) : Bool := a.kind == b.kind && (a.epoch == b.epoch && (a.seq == b.seq && (a.block == b.block && (a.count == b.count && a.data == b.data))))
theorem rcEq_iff (a b : Rc) : rcEq a b = true ↔ a = b := by
  cases a; cases b; simp [rcEq]
theorem part_data (a : Rc) (ha : In a) (w : World) : (part 37 (rcs a).toArray 5).run Try.prog w = .ok (.agg (bs a.data).toArray) w := by
  obtain ⟨m, hm, hsz⟩ := big_size (P := Try.prog) (t := 37) (s := 32) (by kernel_rfl)
  have e : List.take m (List.drop 5 (rcs a)) = bs a.data := by
    show List.take m (bs a.data) = bs a.data
    exact List.take_of_length_le (by rw [bs_length, ha.1, hm]; decide)
  simp [part, isAgg, run_underlying Try.underlying37, hsz, e]
theorem equal_rec (w : World) (a b : Rc) (ha : In a) (hb : In b) : (Op.equalIn 10000 39 (.agg (rcs a).toArray) (.agg (rcs b).toArray)).run Try.prog w = .ok (rcEq a b) w := by
  have hD : ∀ w', (Op.equalIn 9999 37 (.agg (bs a.data).toArray) (.agg (bs b.data).toArray)).run Try.prog w' = .ok (a.data == b.data) w' := fun w' => big_equal (P := Try.prog) w' 9997 37 _ 32 .u8 Try.underlying37 Try.underlying5 size_u8 a.data b.data ha.1 hb.1
  have pa := fun w' => part_data a ha w'
  have pb := fun w' => part_data b hb w'
  have hI : ∀ (r : Rc) (k : Nat) (v : Int) (w' : World), (rcs r).toArray[k]? = some (.int .i64 v) → (part 3 (rcs r).toArray k).run Try.prog w' = .ok (.int .i64 v) w' := fun r k v w' h => by
    simp [part, isAgg, run_underlying Try.underlying3, h]
  have a0 := fun w' => hI a 0 a.kind w' rfl
  have a1 := fun w' => hI a 1 a.epoch w' rfl
  have a2 := fun w' => hI a 2 a.seq w' rfl
  have a3 := fun w' => hI a 3 a.block w' rfl
  have a4 := fun w' => hI a 4 a.count w' rfl
  have b0 := fun w' => hI b 0 b.kind w' rfl
  have b1 := fun w' => hI b 1 b.epoch w' rfl
  have b2 := fun w' => hI b 2 b.seq w' rfl
  have b3 := fun w' => hI b 3 b.block w' rfl
  have b4 := fun w' => hI b 4 b.count w' rfl
  rw [run_equalIn_agg _ _ _ _ _ (by kernel_rfl) (by kernel_rfl)]
  have hi := fun (x y : Int) (w' : World) => run_equalIn_int (P := Try.prog) w' 9998 3 .i64 .i64 x y Try.underlying3
  clear hI
  generalize rcs a = ra at *
  generalize rcs b = rb at *
  simp only [Op.eqFields, Program.fieldsOf, Try.underlying39]
  simp [a0, a1, a2, a3, a4, b0, b1, b2, b3, b4, pa, pb, hD, hi]
  unfold rcEq
  by_cases h0 : a.kind = b.kind <;> by_cases h1 : a.epoch = b.epoch <;> by_cases h2 : a.seq = b.seq <;> by_cases h3 : a.block = b.block <;> by_cases h4 : a.count = b.count <;> by_cases h5 : a.data = b.data <;> simp [h0, h1, h2, h3, h4, h5]

/-! a record is built of its parts -/
theorem rec_places (w : World) : (Array.mapM (fun f : Field => (do pure (f.offset, ← sizeOf f.type) : Sem (Nat × Nat))) (Try.prog.fieldsOf 39)).run Try.prog w = .ok #[(0, 1), (1, 1), (2, 1), (3, 1), (4, 1), (5, 32)] w := by
  have h3 : ∀ w : World, (sizeOf 3).run Try.prog w = .ok 1 w := by intro w; go_simp
  have h23 : ∀ w : World, (sizeOf 37).run Try.prog w = .ok 32 w := by intro w; go_simp
  simp only [Program.fieldsOf, Try.underlying39]
  simp only [List.mapM_toArray, List.mapM_cons, List.mapM_nil, Sem.run_bind, Sem.run_pure, h3, h23, Result.andThen, Sem.run_map]
theorem run_build_rec6 (w : World) (r : Rc) (hr : In r) :
    (Instr.build 39 #[(0, .int .i64 r.kind), (1, .int .i64 r.epoch), (2, .int .i64 r.seq), (3, .int .i64 r.block), (4, .int .i64 r.count), (5, .agg (bs r.data).toArray)]).run Try.prog w = .ok (.agg (rcs r).toArray) w := by
  have hp := rec_places w
  simp only [Program.fieldsOf, Try.underlying39] at hp
  unfold Instr.build
  simp only [Sem.run_bind, zero_rec w, Result.andThen, run_underlying Try.underlying39, hp]
  have e : Instr.fill (fun x => #[((0, 1) : Nat × Nat), (1, 1), (2, 1), (3, 1), (4, 1), (5, 32)][x]?) (Value.agg (rcs rc0).toArray).cells [(0, .int .i64 r.kind), (1, .int .i64 r.epoch), (2, .int .i64 r.seq), (3, .int .i64 r.block), (4, .int .i64 r.count), (5, .agg (bs r.data).toArray)] = some (rcs r).toArray := by
    refine (fill_int _ [] _ _ _ _ 0 0 _ rfl rfl).trans ?_
    refine (fill_int _ [_] _ _ _ _ 1 1 _ rfl rfl).trans ?_
    refine (fill_int _ [_, _] _ _ _ _ 2 2 _ rfl rfl).trans ?_
    refine (fill_int _ [_, _, _] _ _ _ _ 3 3 _ rfl rfl).trans ?_
    refine (fill_int _ [_, _, _, _] _ _ _ _ 4 4 _ rfl rfl).trans ?_
    exact fill_end _ [_, _, _, _, _] (bs z32) (bs r.data) 5 5 (by rw [bs_length, hr.1]; rfl) rfl (by rw [bs_length, bs_length, hr.1]; rfl)
  rw [e]
  rfl
theorem run_build_rec5 (w : World) (k e s b c : Int) :
    (Instr.build 39 #[(0, .int .i64 k), (1, .int .i64 e), (2, .int .i64 s), (3, .int .i64 b), (4, .int .i64 c)]).run Try.prog w = .ok (.agg (rcs ⟨k, e, s, b, c, z32⟩).toArray) w := by
  have hp := rec_places w
  simp only [Program.fieldsOf, Try.underlying39] at hp
  unfold Instr.build
  simp only [Sem.run_bind, zero_rec w, Result.andThen, run_underlying Try.underlying39, hp]
  have e : Instr.fill (fun x => #[((0, 1) : Nat × Nat), (1, 1), (2, 1), (3, 1), (4, 1), (5, 32)][x]?) (Value.agg (rcs rc0).toArray).cells [(0, .int .i64 k), (1, .int .i64 e), (2, .int .i64 s), (3, .int .i64 b), (4, .int .i64 c)] = some (rcs ⟨k, e, s, b, c, z32⟩).toArray := by
    refine (fill_int _ [] _ _ _ _ 0 0 _ rfl rfl).trans ?_
    refine (fill_int _ [_] _ _ _ _ 1 1 _ rfl rfl).trans ?_
    refine (fill_int _ [_, _] _ _ _ _ 2 2 _ rfl rfl).trans ?_
    refine (fill_int _ [_, _, _] _ _ _ _ 3 3 _ rfl rfl).trans ?_
    exact (fill_int _ [_, _, _, _] _ _ _ _ 4 4 _ rfl rfl).trans rfl
  rw [e]
  rfl
theorem run_build_rec0 (w : World) : (Instr.build 39 #[]).run Try.prog w = .ok (.agg (rcs rc0).toArray) w := by
  have hp := rec_places w
  simp only [Program.fieldsOf, Try.underlying39] at hp
  unfold Instr.build
  simp only [Sem.run_bind, zero_rec w, Result.andThen, run_underlying Try.underlying39, hp]
  rfl
section
variable {w : World} {ops : Array Oper} {rest : List Oper} {o : Oper} {a : Act} {Q : Exit → Act → World → Prop}
theorem wpList_rc_zero (hgd : o.guard = none) (ho : o.op = .build 39 #[]) (h : wpList Try.prog ops Q rest (a.put o.dst (.agg (rcs rc0).toArray)) w) : wpList Try.prog ops Q (o :: rest) a w := by
  refine wpList_plain hgd fun K hK => ?_
  unfold Oper.wp
  simp [execOp, ho, run_build_rec0 w, Result.andThen]
  exact hK _ _ h
theorem wpList_rc_build6 (hgd : o.guard = none) (x0 x1 x2 x3 x4 x5 : Operand) (ho : o.op = .build 39 #[(0, x0), (1, x1), (2, x2), (3, x3), (4, x4), (5, x5)]) (r : Rc) (hr : In r)
    (h0 : a.eval x0 = .int .i64 r.kind) (h1 : a.eval x1 = .int .i64 r.epoch) (h2 : a.eval x2 = .int .i64 r.seq) (h3 : a.eval x3 = .int .i64 r.block) (h4 : a.eval x4 = .int .i64 r.count) (h5 : a.eval x5 = .agg (bs r.data).toArray)
    (h : wpList Try.prog ops Q rest (a.put o.dst (.agg (rcs r).toArray)) w) : wpList Try.prog ops Q (o :: rest) a w := by
  refine wpList_plain hgd fun K hK => ?_
  unfold Oper.wp
  simp [execOp, ho, h0, h1, h2, h3, h4, h5, run_build_rec6 w r hr, Result.andThen]
  exact hK _ _ h
theorem wpList_rc_build5 (hgd : o.guard = none) (x0 x1 x2 x3 x4 : Operand) (ho : o.op = .build 39 #[(0, x0), (1, x1), (2, x2), (3, x3), (4, x4)]) (k e s b c : Int)
    (h0 : a.eval x0 = .int .i64 k) (h1 : a.eval x1 = .int .i64 e) (h2 : a.eval x2 = .int .i64 s) (h3 : a.eval x3 = .int .i64 b) (h4 : a.eval x4 = .int .i64 c)
    (h : wpList Try.prog ops Q rest (a.put o.dst (.agg (rcs ⟨k, e, s, b, c, z32⟩).toArray)) w) : wpList Try.prog ops Q (o :: rest) a w := by
  refine wpList_plain hgd fun K hK => ?_
  unfold Oper.wp
  simp [execOp, ho, h0, h1, h2, h3, h4, run_build_rec5 w k e s b c, Result.andThen]
  exact hK _ _ h
end
end Go.Proofs.Ytkbgogofedppgaa

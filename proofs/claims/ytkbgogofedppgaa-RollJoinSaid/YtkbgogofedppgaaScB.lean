/-
  Found records in memory: their cells, made, read, compared; lists of them.
-/
import Derived.Test.YtkbgogofedppgaaScM
import Derived.Test.YtkbgogofedppgaaRecB
import Derived.Test.YtkbgogofedppgaaStepA
import Derived.Test.YtkbgogofedppgaaOpen
namespace Go.Proofs.Ytkbgogofedppgaa
open Go.RowKit Word Rec Scan
set_option linter.unusedVariables false

/-- a found record's cells -/
def fcs (f : Fo) : List Value := .int .i64 f.pl :: rcs f.r
theorem fcs_len {f : Fo} (h : f.r.data.length = 32) : (fcs f).length = 38 := by simp [fcs, rcs_length h]
theorem fcs_length {f : Fo} (h : FIn f) : (fcs f).length = 38 := by simp [fcs, rcs_length h.1]
theorem fcs_one (f : Fo) : ∀ u ∈ fcs f, u.oneCell' = true := by
  intro u hu
  rcases List.mem_cons.1 hu with rfl | hu
  · rfl
  · exact rcs_one _ u hu
theorem fcs_inj {a b : Fo} (h : fcs a = fcs b) : a = b := by
  unfold fcs at h
  injection h with h0 h
  have h1 := rcs_inj h
  injection h0 with _ h0
  cases a; cases b; simp_all
section
variable {w : World} {b : Nat} {T : TypeId} {f : Fo}
theorem Box.fo (h : Box w b T (fcs f)) : w.cell? ⟨b, 0, none⟩ = some (.int .i64 f.pl) ∧ w.cell? ⟨b, 3, none⟩ = some (.int .i64 f.r.seq) := ⟨h.cell 0, h.cell 3⟩
end
/-- the cells of a list of them -/
def fls (l : List Fo) : List Value := l.flatMap fcs
theorem fls_append (l m : List Fo) : fls (l ++ m) = fls l ++ fls m := by simp [fls]
theorem fls_single (f : Fo) : fls [f] = fcs f := by simp [fls]
theorem fls_length : ∀ {l : List Fo}, (∀ f ∈ l, FIn f) → (fls l).length = l.length * 38
  | [], _ => rfl
  | f :: l, h => by
    have h1 := fcs_length (h f List.mem_cons_self)
    have h2 := fls_length fun g hg => h g (List.mem_cons_of_mem _ hg)
    have e : fls (f :: l) = fcs f ++ fls l := rfl
    rw [e, List.length_append, h1, h2, List.length_cons]
    omega
theorem fls_one (l : List Fo) : ∀ u ∈ fls l, u.oneCell' = true := by
  intro u hu
  obtain ⟨f, _, h⟩ := List.mem_flatMap.1 hu
  exact fcs_one f u h
theorem fls_at : ∀ {l : List Fo} {k j : Nat} {f : Fo} {v : Value}, (∀ f ∈ l, FIn f) → l[k]? = some f → (fcs f)[j]? = some v → (fls l)[k * 38 + j]? = some v
  | [], k, j, f, v, _, h, _ => by simp at h
  | g :: l, 0, j, f, v, hin, h, hv => by
    obtain rfl : g = f := by simpa using h
    have e : fls (g :: l) = fcs g ++ fls l := rfl
    have hj : j < (fcs g).length := (List.getElem?_eq_some_iff.1 hv).1
    rw [e, Nat.zero_mul, Nat.zero_add, List.getElem?_append_left hj]
    exact hv
  | g :: l, k + 1, j, f, v, hin, h, hv => by
    have e : fls (g :: l) = fcs g ++ fls l := rfl
    have h1 := fcs_length (hin g List.mem_cons_self)
    have := fls_at (l := l) (k := k) (j := j) (fun g hg => hin g (List.mem_cons_of_mem _ hg)) (by simpa using h) hv
    rw [e, List.getElem?_append_right (by omega), h1, show (k + 1) * 38 + j - 38 = k * 38 + j by omega]
    exact this
theorem fo_cell {w : World} {B : Nat} {ad : Addr} {l : List Fo} {k : Nat} {f : Fo} (h : Rd w B (some ad) (fls l)) (hin : ∀ f ∈ l, FIn f) (hk : l[k]? = some f) : ∀ j v, (fcs f)[j]? = some v → w.cell? ((ad.add (k * 38)).add j) = some v := fun j v hv => by
  rw [addr_add_add]
  obtain ⟨ad2, e, _, hc⟩ := h.at (fls_at hin hk hv)
  obtain rfl : ad = ad2 := by injection e
  exact hc
theorem fo_some {w : World} {B : Nat} {A : Option Addr} {l : List Fo} {k : Nat} {f : Fo} (h : Rd w B A (fls l)) (hin : ∀ f ∈ l, FIn f) (hk : l[k]? = some f) : ∃ ad, A = some ad ∧ ad.block < B := by
  obtain ⟨ad, e, hb, _⟩ := h.at (fls_at hin hk (j := 0) (v := .int .i64 f.pl) rfl)
  exact ⟨ad, e, hb⟩
theorem guard_found : Try.prog.eqGuardType Try.prog.depth 41 = false := by kernel_rfl
theorem zero_found (w : World) : (zeroValue 41).run Try.prog w = .ok (.agg (fcs fo0).toArray) w :=
  (zero_of_info (P := Try.prog) (t := 41) (v := .agg (fcs fo0).toArray) (n := 38) (by kernel_rfl)).1 w
theorem fo_size {f : Fo} (h : FIn f) : (Try.prog.info? 41).map (·.size) = some (fcs f).length := by rw [fcs_length h]; kernel_rfl
theorem elemF : Elem Try.prog 33 41 (.agg (fcs fo0).toArray) 38 80 := Elem.of Try.underlying33 (by kernel_rfl) rfl (by decide)
section
variable {w : World} {ops : Array Oper} {rest : List Oper} {o : Oper} {a : Act} {Q : Exit → Act → World → Prop}
theorem wpList_fo_alloc (hgd : o.guard = none) (ho : o.op = .alloc 41)
    (h : ∀ w', Box w' w.heap.size 41 (fcs fo0) → Below w.heap.size w w' → w'.heap.size = w.heap.size + 1 → wpList Try.prog ops Q rest (a.put o.dst (.pointer (some ⟨w.heap.size, 0, none⟩))) w') : wpList Try.prog ops Q (o :: rest) a w :=
  wpList_alloc_box w hgd _ ho (fcs fo0) zero_found h
theorem wpList_fo_store (hgd : o.guard = none) (x y : Operand) (ho : o.op = .store 41 x y) (g : Nat) (r old : Fo) (hr : FIn r) (hold : FIn old) (hx : a.eval x = .pointer (some ⟨g, 0, none⟩)) (hy : a.eval y = .agg (fcs r).toArray) (hb : Box w g 41 (fcs old))
    (h : ∀ w', Box w' g 41 (fcs r) → w.grownBy w' (some g) → w'.heap.size = w.heap.size → wpList Try.prog ops Q rest (a.put o.dst undef) w') : wpList Try.prog ops Q (o :: rest) a w :=
  wpList_store_box w hgd _ x y ho g (fcs r) (fcs old) (fo_size hr) (by rw [fcs_length hr, fcs_length hold]) (fcs_one r) hx hy hb
    (h _ (setRow_heap w g _ _ _ _ hb) ⟨rfl, rfl, rfl, by simp [World.setRow], fun k _ hk => setRow_other w g k _ (by intro e; exact hk (by rw [e]))⟩ (by simp [World.setRow]))
theorem wpList_fo_box (hgd : o.guard = none) (x : Operand) (ho : o.op = .box 41 x) (r : Fo) (hx : a.eval x = .agg (fcs r).toArray)
    (h : ∀ w', Box w' w.heap.size 41 (fcs r) → Below w.heap.size w w' → w'.heap.size = w.heap.size + 1 → wpList Try.prog ops Q rest (a.put o.dst (.pointer (some ⟨w.heap.size, 0, none⟩))) w') : wpList Try.prog ops Q (o :: rest) a w :=
  wpList_box_box w hgd _ x ho (fcs r) hx h
end

/-! two of them are compared -/
theorem equal_rec_in (w : World) (a b : Rc) (ha : In a) (hb : In b) : (Op.equalIn 9999 39 (.agg (rcs a).toArray) (.agg (rcs b).toArray)).run Try.prog w = .ok (rcEq a b) w := by
  have hD : ∀ w', (Op.equalIn 9998 37 (.agg (bs a.data).toArray) (.agg (bs b.data).toArray)).run Try.prog w' = .ok (a.data == b.data) w' := fun w' => big_equal (P := Try.prog) w' 9996 37 _ 32 .u8 Try.underlying37 Try.underlying5 size_u8 a.data b.data ha.1 hb.1
  have pa := fun w' => part_data a ha w'
  have pb := fun w' => part_data b hb w'
  have hI : ∀ (r : Rc) (k : Nat) (v : Int) (w' : World), (rcs r).toArray[k]? = some (.int .i64 v) → (part 3 (rcs r).toArray k).run Try.prog w' = .ok (.int .i64 v) w' := fun r k v w' h => by
    simp [part, isAgg, run_underlying Try.underlying3, h]
  have a0 := fun w' => hI a 0 a.kind w' rfl
  have a1 := fun w' => hI a 1 a.epoch w' rfl
  have a2 := fun w' => hI a 2 a.seq w' rfl
  have a3 := fun w' => hI a 3 a.block w' rfl
  have a4 := fun w' => hI a 4 a.count w' rfl
  have b0 := fun w' => hI b 0 b.kind w' rfl
  have b1 := fun w' => hI b 1 b.epoch w' rfl
  have b2 := fun w' => hI b 2 b.seq w' rfl
  have b3 := fun w' => hI b 3 b.block w' rfl
  have b4 := fun w' => hI b 4 b.count w' rfl
  rw [run_equalIn_agg _ _ _ _ _ (by kernel_rfl) (by kernel_rfl)]
  have hi := fun (x y : Int) (w' : World) => run_equalIn_int (P := Try.prog) w' 9997 3 .i64 .i64 x y Try.underlying3
  clear hI
  generalize rcs a = ra at *
  generalize rcs b = rb at *
  simp only [Op.eqFields, Program.fieldsOf, Try.underlying39]
  simp [a0, a1, a2, a3, a4, b0, b1, b2, b3, b4, pa, pb, hD, hi]
  unfold rcEq
  by_cases h0 : a.kind = b.kind <;> by_cases h1 : a.epoch = b.epoch <;> by_cases h2 : a.seq = b.seq <;> by_cases h3 : a.block = b.block <;> by_cases h4 : a.count = b.count <;> by_cases h5 : a.data = b.data <;> simp [h0, h1, h2, h3, h4, h5]


def foEq (a b : Fo) : Bool := a.pl == b.pl && rcEq a.r b.r
theorem foEq_iff (a b : Fo) : foEq a b = true ↔ a = b := by
  unfold foEq
  rw [Bool.and_eq_true, rcEq_iff]
  cases a; cases b; simp
theorem part_rec (a : Fo) (ha : FIn a) (w : World) : (part 39 (fcs a).toArray 1).run Try.prog w = .ok (.agg (rcs a.r).toArray) w := by
  obtain ⟨m, hm, hsz⟩ := big_size (P := Try.prog) (t := 39) (s := 37) (by kernel_rfl)
  have e : List.take m (fcs a).tail = rcs a.r := by
    show List.take m (rcs a.r) = rcs a.r
    exact List.take_of_length_le (by rw [rcs_length ha.1, hm]; decide)
  simp [part, isAgg, run_underlying Try.underlying39, hsz, e]
theorem equal_found (w : World) (a b : Fo) (ha : FIn a) (hb : FIn b) : (Op.equalIn 10000 41 (.agg (fcs a).toArray) (.agg (fcs b).toArray)).run Try.prog w = .ok (foEq a b) w := by
  have hD : ∀ w', (Op.equalIn 9999 39 (.agg (rcs a.r).toArray) (.agg (rcs b.r).toArray)).run Try.prog w' = .ok (rcEq a.r b.r) w' := fun w' => equal_rec_in w' a.r b.r ha hb
  have pa := fun w' => part_rec a ha w'
  have pb := fun w' => part_rec b hb w'
  have hI : ∀ (r : Fo) (k : Nat) (v : Int) (w' : World), (fcs r).toArray[k]? = some (.int .i64 v) → (part 3 (fcs r).toArray k).run Try.prog w' = .ok (.int .i64 v) w' := fun r k v w' h => by
    simp [part, isAgg, run_underlying Try.underlying3, h]
  have a0 := fun w' => hI a 0 a.pl w' rfl
  have b0 := fun w' => hI b 0 b.pl w' rfl
  rw [run_equalIn_agg _ _ _ _ _ (by kernel_rfl) (by kernel_rfl)]
  have hi := fun (x y : Int) (w' : World) => run_equalIn_int (P := Try.prog) w' 9998 3 .i64 .i64 x y Try.underlying3
  clear hI
  unfold foEq
  generalize fcs a = ca at *
  generalize fcs b = cb at *
  generalize rcs a.r = ra at *
  generalize rcs b.r = rb at *
  generalize rcEq a.r b.r = q at *
  simp only [Op.eqFields, Program.fieldsOf, Try.underlying41]
  simp [a0, b0, pa, pb, hD, hi]
  by_cases h0 : a.pl = b.pl <;> cases q <;> simp [h0]

/-! one is built of its parts -/
theorem found_places (w : World) : (Array.mapM (fun f : Field => (do pure (f.offset, ← sizeOf f.type) : Sem (Nat × Nat))) (Try.prog.fieldsOf 41)).run Try.prog w = .ok #[(0, 1), (1, 37)] w := by
  have h3 : ∀ w : World, (sizeOf 3).run Try.prog w = .ok 1 w := by intro w; go_simp
  have h23 : ∀ w : World, (sizeOf 39).run Try.prog w = .ok 37 w := by intro w; go_simp
  simp only [Program.fieldsOf, Try.underlying41]
  simp only [List.mapM_toArray, List.mapM_cons, List.mapM_nil, Sem.run_bind, Sem.run_pure, h3, h23, Result.andThen, Sem.run_map]
theorem run_build_found (w : World) (f : Fo) (h : FIn f) :
    (Instr.build 41 #[(0, .int .i64 f.pl), (1, .agg (rcs f.r).toArray)]).run Try.prog w = .ok (.agg (fcs f).toArray) w := by
  have hp := found_places w
  simp only [Program.fieldsOf, Try.underlying41] at hp
  unfold Instr.build
  simp only [Sem.run_bind, zero_found w, Result.andThen, run_underlying Try.underlying41, hp]
  have e : Instr.fill (fun x => #[((0, 1) : Nat × Nat), (1, 37)][x]?) (Value.agg (fcs fo0).toArray).cells [(0, .int .i64 f.pl), (1, .agg (rcs f.r).toArray)] = some (fcs f).toArray := by
    refine (fill_int _ [] _ _ _ _ 0 0 _ rfl rfl).trans ?_
    exact fill_end _ [_] (rcs rc0) (rcs f.r) 1 1 (by rw [rcs_length h.1]; rfl) rfl (by rw [rcs_length h.1, rcs_length rc0_in.1])
  rw [e]
  rfl
section
variable {w : World} {ops : Array Oper} {rest : List Oper} {o : Oper} {a : Act} {Q : Exit → Act → World → Prop}
theorem wpList_fo_build (hgd : o.guard = none) (x0 x1 : Operand) (ho : o.op = .build 41 #[(0, x0), (1, x1)]) (f : Fo) (hr : FIn f) (h0 : a.eval x0 = .int .i64 f.pl) (h1 : a.eval x1 = .agg (rcs f.r).toArray)
    (h : wpList Try.prog ops Q rest (a.put o.dst (.agg (fcs f).toArray)) w) : wpList Try.prog ops Q (o :: rest) a w := by
  refine wpList_plain hgd fun K hK => ?_
  unfold Oper.wp
  simp [execOp, ho, h0, h1, run_build_found w f hr, Result.andThen]
  exact hK _ _ h
end
end Go.Proofs.Ytkbgogofedppgaa

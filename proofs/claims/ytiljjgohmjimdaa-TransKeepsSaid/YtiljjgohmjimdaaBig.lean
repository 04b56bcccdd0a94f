/-
  Blocks of many cells, known whole: read and laid at once. Nothing here speaks of one program.
-/
import Derived.Test.YtiljjgohmjimdaaFrame
import Derived.Deep.MidRow
import Derived.Deep.WholeRow
import Derived.Maps.OwnRows
namespace Go.Proofs.Ytiljjgohmjimdaa
open Go.RowKit
set_option linter.unusedVariables false

/-- a block of a few cells, known whole -/
def Box (w : World) (b : Nat) (T : TypeId) (cs : List Value) : Prop := w.heap[b]? = some (.cells cs.toArray T (0, 0))
section
variable {w w' : World} {b : Nat} {T : TypeId} {cs : List Value}
theorem Box.lt (h : Box w b T cs) : b < w.heap.size := lt_of_block h
theorem Box.same (h : Box w b T cs) (hb : w'.heap[b]? = w.heap[b]?) : Box w' b T cs := hb.trans h
theorem Box.cell (h : Box w b T cs) (k : Nat) : w.cell? ⟨b, k, none⟩ = cs[k]? := by
  have := cell_of_row w b k _ _ _ h
  simpa using this
theorem Box.frozen (h : Box w b T cs) (k : Nat) : w.frozen? ⟨b, k, none⟩ = false := frozen_of_row _ _ _ _ _ h
theorem Box.set (h : Box w b T cs) (k : Nat) (v : Value) : Box (w.setCell ⟨b, k, none⟩ v) b T (cs.set k v) := (heap_setCell_same _ _ _ _ _ _ h).trans (by simp)
theorem Box.ne {b' : Nat} {T' : TypeId} {cs' : List Value} (h : Box w b T cs) (h' : Box w b' T' cs') (hn : T ≠ T') : b ≠ b' := by
  rintro rfl
  unfold Box at h h'
  rw [h'] at h
  injection h with h
  injection h with _ h
  exact hn h.symm
theorem Box.ne_row {base sz n g : Nat} {e : TypeId} {v : Value} {xs : List Value} (h : Box w b T cs) (hr : w.ownsRow base e sz v n xs) (hg : v.ownBlock = some g) (hn : T ≠ e) : b ≠ g := by
  rintro rfl
  obtain ⟨_, cur, h2⟩ := own_type hr hg
  unfold Box at h
  rw [h2] at h
  injection h with h
  injection h with _ h
  exact hn h.symm
theorem Box.new (w : World) (T : TypeId) (cs : List Value) : Box (w.alloc (.cells cs.toArray T)) w.heap.size T cs := (MapKept.heap_alloc w _).1
/-- a box stays where calls only make memory -/
theorem Box.below {B : Nat} (h : Box w b T cs) (hb : Below B w w') (hB : b < B) : Box w' b T cs := h.same (hb.block _ hB)
theorem Box.on (h : Box w b T cs) (hb : Below w.heap.size w w') : Box w' b T cs := h.below hb h.lt
theorem Box.range (h : Box w b T cs) (o : Nat) (us : List Value) (hu : ∀ j v, us[j]? = some v → cs[o + j]? = some v) : w.rangeAt b o us := fun j v hj => (h.cell (o + j)).trans (hu j v hj)
theorem Box.range0 (h : Box w b T cs) : w.rangeAt b 0 cs := h.range 0 cs fun j v hj => by rw [Nat.zero_add]; exact hj
theorem Box.grown {g : Nat} (h : Box w b T cs) (hg : w.grownBy w' (some g)) (hne : b ≠ g) : Box w' b T cs := h.same (hg.block b h.lt fun e => hne (Option.some.inj e))
/-- an array's variable as a row of its own -/
theorem Box.own (h : Box w b T cs) {n : Nat} (hn : cs.length = n) (hm : n ≤ maxLen) (base : Nat) (hb : base ≤ b) : w.ownsRow base T 1 (.slice (some ⟨b, 0, none⟩) n n) n cs := by
  refine ⟨by rw [hn, Nat.mul_one], .inr ⟨b, n, cs.toArray, rfl, hb, h, Nat.le_refl _, hm, by simp [hn], ?_⟩⟩
  simp
  exact List.take_of_length_le (by omega)
theorem Box.of_own {base n : Nat} (h : w.ownsRow base T 1 (.slice (some ⟨b, 0, none⟩) n n) n cs) (hn : 0 < n) : Box w b T cs := by
  rcases h.2 with ⟨h2, _⟩ | ⟨g, cap, cur, h1, _, h3, _, _, h5, h6⟩
  · cases h2
  · injection h1 with h1 _ h2
    injection h1 with h1
    injection h1 with h1
    subst h1
    subst h2
    have e : cur = cs.toArray := by
      rw [← h6, List.take_of_length_le (by simp; omega)]
    exact h3.trans (by rw [e])
theorem below_grown {w w' : World} {g : Nat} {B : Nat} (h : w.grownBy w' (some g)) (hB : B ≤ g) (hs : B ≤ w.heap.size) : Below B w w' := (Below.refl _ _).grown h hs fun k hk => by injection hk with hk; omega
end

theorem foldl_set_off (off : Nat) (us : List Value) (l : List Value) : ∀ (k : Nat) (pre : List Value), pre.length = off + k → us.length ≤ l.length →
    (us.zipIdx k).foldl (fun cs (x : Value × Nat) => cs.setIfInBounds (off + x.2) x.1) ((pre ++ l).toArray) = (pre ++ us ++ l.drop us.length).toArray := by
  induction us generalizing l with
  | nil => intro k pre _ _; simp
  | cons u r ih =>
    intro k pre hk hl
    cases l with
    | nil => simp at hl
    | cons y l =>
      rw [List.zipIdx_cons, List.foldl_cons]
      have e : (pre ++ y :: l).toArray.setIfInBounds (off + k) u = ((pre ++ [u]) ++ l).toArray := by
        simp [← hk]
      simp only [e]
      rw [ih l (k + 1) (pre ++ [u]) (by simp [hk]; omega) (by simpa using hl)]
      simp
theorem fill_int (pl : Nat → Option (Nat × Nat)) (pre rest : List Value) (x0 : Value) (k : IntKind) (n : Int) (i off : Nat) (more : List (Nat × Value)) (hpl : pl i = some (off, 1)) (hoff : pre.length = off) :
    Instr.fill pl (pre ++ x0 :: rest).toArray ((i, .int k n) :: more) = Instr.fill pl (pre ++ Value.int k n :: rest).toArray more := by
  have e : (Value.int k n).cells = #[Value.int k n] := rfl
  conv => lhs; unfold Instr.fill
  simp only [hpl, e]
  rw [if_neg (by simp; omega)]
  congr 1
  subst hoff
  simp
theorem fill_end (pl : Nat → Option (Nat × Nat)) (pre old us : List Value) (i off : Nat) (hpl : pl i = some (off, us.length)) (hoff : pre.length = off) (hl : us.length = old.length) :
    Instr.fill pl (pre ++ old).toArray [(i, .agg us.toArray)] = some (pre ++ us).toArray := by
  have e : (Value.agg us.toArray).cells = us.toArray := rfl
  have hf := foldl_set_off off us old 0 pre (by omega) (by omega)
  rw [List.drop_eq_nil_of_le (by omega), List.append_nil] at hf
  unfold Instr.fill
  simp only [hpl, e]
  rw [if_neg (by simp; omega)]
  unfold Instr.fill
  rw [← Array.foldl_toList, Array.toList_zipIdx, hf]
/-- many cells are stored at once -/
theorem big_store (P : Program) (w : World) (g : Nat) (t ty : TypeId) (old : Array Value) (cs : List Value) (hg : w.heap[g]? = some (.cells old t (0, 0))) (hi : (P.info? ty).map (·.size) = some cs.length)
    (ho : old.size = cs.length) (h1 : ∀ u ∈ cs, u.oneCell' = true) : (storeCells ⟨g, 0, none⟩ cs 0).run P w = .ok () (w.setRow g cs.toArray) := by
  have := run_storeVar_row (P := P) w g t ty old cs.toArray hg (by simpa using hi) (by simpa using ho) (all_oneCell_toArray h1)
  cases hq : P.info? ty with
  | none => simp [hq] at hi
  | some i =>
    have hs : cs.length = i.size := by simp [hq] at hi; omega
    simpa [storeVar, sizeOf, typeInfo, hq, Value.cells, hs] using this
theorem big_all_eq : ∀ (xs ys : List Int), xs.length = ys.length → ((List.range xs.length).all fun i => xs.getD i 0 == ys.getD i 0) = (xs == ys)
  | [], [], _ => rfl
  | x :: xs, y :: ys, h => by
    have ih := big_all_eq xs ys (by simpa using h)
    rw [List.length_cons, List.range_succ_eq_map, List.all_cons, List.all_map]
    simp only [List.getD_cons_zero, Function.comp_def, List.getD_cons_succ, ih]
    simp [List.cons_beq_cons]
  | [], _ :: _, h => by simp at h
  | _ :: _, [], h => by simp at h
section
variable {P : Program} (w : World)
/-- two arrays of integers are compared -/
theorem big_equal (d : Nat) (t e : TypeId) (n : Nat) (k : IntKind) (ht : P.underlying t = some (.array n e)) (he : P.underlying e = some (.int k)) (hsz : ∀ w, (sizeOf e).run P w = .ok 1 w)
    (xs ys : List Int) (hx : xs.length = n) (hy : ys.length = n) :
    (Op.equalIn (d + 2) t (.agg (xs.map (Value.int k)).toArray) (.agg (ys.map (Value.int k)).toArray)).run P w = .ok (xs == ys) w := by
  rw [← big_all_eq xs ys (hx.trans hy.symm), hx, List.range_eq_range', Op.equalIn]
  simp only [Sem.run_bind, run_underlying ht, Result.andThen_ok, hsz, Std.Legacy.Range.forIn_eq_forIn_range', Std.Legacy.Range.size, Nat.sub_zero, Nat.add_sub_cancel, Nat.div_one]
  have hl : ∀ i ∈ List.range' 0 n 1, i < n := fun i hi => by simpa using (List.mem_range'_1.1 hi).2
  generalize List.range' 0 n 1 = l at hl ⊢
  induction l with
  | nil => simp
  | cons i l ih =>
    have hi : i < n := hl i (by simp)
    have px : (part e (xs.map (Value.int k)).toArray (i * 1)).run P w = .ok (.int k (xs.getD i 0)) w := by
      simp [part, isAgg, run_underlying he, List.getD, List.getElem?_eq_getElem (show i < xs.length by omega)]
    have py : (part e (ys.map (Value.int k)).toArray (i * 1)).run P w = .ok (.int k (ys.getD i 0)) w := by
      simp [part, isAgg, run_underlying he, List.getD, List.getElem?_eq_getElem (show i < ys.length by omega)]
    have pe : (Op.equalIn (d + 1) e (.int k (xs.getD i 0)) (.int k (ys.getD i 0))).run P w = .ok (xs.getD i 0 == ys.getD i 0) w := run_equalIn_int w d e k k _ _ he
    simp only [List.forIn_cons, Sem.run_bind, px, py, pe, Result.andThen_ok, List.all_cons]
    cases hb : (xs.getD i 0 == ys.getD i 0)
    · simp
    · simp only [Bool.not_true, Bool.false_eq_true, if_false, Sem.run_pure, Result.andThen_ok, Bool.true_and]
      exact ih fun j hj => hl j (by simp [hj])
theorem big_eql (t e : TypeId) (n : Nat) (k : IntKind) (ht : P.underlying t = some (.array n e)) (he : P.underlying e = some (.int k)) (hsz : ∀ w, (sizeOf e).run P w = .ok 1 w)
    (xs ys : List Int) (hx : xs.length = n) (hy : ys.length = n) : (binOp .eql t (.agg (xs.map (Value.int k)).toArray) (.agg (ys.map (Value.int k)).toArray)).run P w = .ok (.bool (xs == ys)) w := by
  rw [run_eql_struct, big_equal w 9998 t e n k ht he hsz xs ys hx hy]
  rfl
theorem big_neq (t e : TypeId) (n : Nat) (k : IntKind) (ht : P.underlying t = some (.array n e)) (he : P.underlying e = some (.int k)) (hsz : ∀ w, (sizeOf e).run P w = .ok 1 w)
    (xs ys : List Int) (hx : xs.length = n) (hy : ys.length = n) : (binOp .neq t (.agg (xs.map (Value.int k)).toArray) (.agg (ys.map (Value.int k)).toArray)).run P w = .ok (.bool (!(xs == ys))) w := by
  rw [run_neq_struct, big_equal w 9998 t e n k ht he hsz xs ys hx hy]
  rfl
/-- the zero value of an array or a struct of whatever size -/
theorem wpList_build_zero {ops : Array Oper} {rest : List Oper} {o : Oper} {a : Act} {Q : Exit → Act → World → Prop} (hgd : o.guard = none) (t : TypeId) (ho : o.op = .build t #[]) (cs : List Value) (hb : ∀ w, (Instr.build t #[]).run P w = .ok (.agg cs.toArray) w)
    (h : wpList P ops Q rest (a.put o.dst (.agg cs.toArray)) w) : wpList P ops Q (o :: rest) a w := by
  refine wpList_plain hgd fun K hK => ?_
  unfold Oper.wp
  simp [execOp, ho, hb w, Result.andThen]
  exact hK _ _ h
/-- a variable of whatever size is made -/
theorem wpList_alloc_box {ops : Array Oper} {rest : List Oper} {o : Oper} {a : Act} {Q : Exit → Act → World → Prop} (hgd : o.guard = none) (t : TypeId) (ho : o.op = .alloc t) (cs : List Value) (hz : ∀ w, (zeroValue t).run P w = .ok (.agg cs.toArray) w)
    (h : ∀ w', Box w' w.heap.size t cs → Below w.heap.size w w' → w'.heap.size = w.heap.size + 1 → wpList P ops Q rest (a.put o.dst (.pointer (some ⟨w.heap.size, 0, none⟩))) w') : wpList P ops Q (o :: rest) a w := by
  refine wpList_plain hgd fun K hK => ?_
  have e : (Instr.alloc t true (.tuple #[])).run P w = .ok (.pointer (some ⟨w.heap.size, 0, none⟩)) (w.alloc (.cells cs.toArray t)) := by
    simp [Instr.alloc, hz w, newVar, newRow, newObj, Value.cells]
    rfl
  unfold Oper.wp execOp
  simp only [ho, Sem.run_bind, e, Result.andThen_ok]
  exact hK _ _ (h _ (Box.new w t cs) ((Below.refl _ _).alloc (Nat.le_refl _) _) (by simp))
/-- a value of whatever size is laid into a new variable -/
theorem wpList_box_box {ops : Array Oper} {rest : List Oper} {o : Oper} {a : Act} {Q : Exit → Act → World → Prop} (hgd : o.guard = none) (t : TypeId) (x : Operand) (ho : o.op = .box t x) (cs : List Value) (hx : a.eval x = .agg cs.toArray)
    (h : ∀ w', Box w' w.heap.size t cs → Below w.heap.size w w' → w'.heap.size = w.heap.size + 1 → wpList P ops Q rest (a.put o.dst (.pointer (some ⟨w.heap.size, 0, none⟩))) w') : wpList P ops Q (o :: rest) a w := by
  refine wpList_plain hgd fun K hK => ?_
  have e : (Instr.box t (.agg cs.toArray)).run P w = .ok (.pointer (some ⟨w.heap.size, 0, none⟩)) (w.alloc (.cells cs.toArray t)) := by
    simp [Instr.box, newVar, newRow, newObj, Value.cells]
    rfl
  unfold Oper.wp execOp
  simp only [ho, hx, Sem.run_bind, e, Result.andThen_ok]
  exact hK _ _ (h _ (Box.new w t cs) ((Below.refl _ _).alloc (Nat.le_refl _) _) (by simp))
/-- a variable of whatever size is laid -/
theorem wpList_store_box {ops : Array Oper} {rest : List Oper} {o : Oper} {a : Act} {Q : Exit → Act → World → Prop} (hgd : o.guard = none) (t : TypeId) (x y : Operand) (ho : o.op = .store t x y) (g : Nat) (cs old : List Value) (hsz : (P.info? t).map (·.size) = some cs.length) (hold : old.length = cs.length)
    (h1 : ∀ u ∈ cs, u.oneCell' = true) (hx : a.eval x = .pointer (some ⟨g, 0, none⟩)) (hy : a.eval y = .agg cs.toArray) (hb : Box w g t old)
    (h : wpList P ops Q rest (a.put o.dst undef) (w.setRow g cs.toArray)) : wpList P ops Q (o :: rest) a w := by
  refine wpList_plain hgd fun K hK => ?_
  have hr := run_storeVar_row (P := P) w g t t old.toArray cs.toArray hb (by simpa using hsz) (by simp [hold]) (all_oneCell_toArray h1)
  unfold Oper.wp execOp
  simp only [ho, hx, hy, Instr.storeAt, Instr.sureAddr, Sem.run_bind, Sem.run_pure, Result.andThen_ok, hr]
  exact hK _ _ h
/-- a variable of whatever size is read -/
theorem wpList_load_box {ops : Array Oper} {rest : List Oper} {o : Oper} {a : Act} {Q : Exit → Act → World → Prop} (hgd : o.guard = none) (t : TypeId) (x : Operand) (ho : o.op = .load t x) (g off : Nat) (cs : List Value) (d : TypeDesc) (hu : P.underlying t = some d) (hd : d.isRow = true) (hsz : (P.info? t).map (·.size) = some cs.length)
    (hx : a.eval x = .pointer (some ⟨g, off, none⟩)) (hb : w.rangeAt g off cs)
    (h : wpList P ops Q rest (a.put o.dst (.agg cs.toArray)) w) : wpList P ops Q (o :: rest) a w := by
  refine wpList_plain hgd fun K hK => ?_
  have hr := run_loadAt_mid w g off t cs d hb hu hd hsz
  unfold Oper.wp execOp
  simp only [ho, hx, Sem.run_bind, hr, Result.andThen_ok]
  exact hK _ _ h
end
theorem Fr.setRow {T : Nat → Prop} {w w1 : World} (h : Fr T w w1) (g : Nat) (cs : Array Value) (hg : T g) : Fr T w (w1.setRow g cs) :=
  h.trans ⟨rfl, rfl, rfl, by simp, fun k _ ht => setRow_other _ _ _ _ (fun e => ht (e ▸ hg))⟩
end Go.Proofs.Ytiljjgohmjimdaa

/-
  Frame Big Pg
-/
import Derived.Test.YthgjlofebicpiaaMg00
import Derived.Laws.IdiomCopy
import Derived.Deep.MidRow
import Derived.Deep.WholeRow
import Derived.Maps.OwnRows
import Derived.Test.YthgjlofebicpiaaMg01
import Derived.Laws.StructEq
/-
  What a call may touch: a set of blocks. 'Fr T w w'': of the blocks of w all but those of T are what they were. Nothing here speaks of one program.
-/
namespace Go.Proofs.Ythgjlofebicpiaa
open Go.RowKit
set_option linter.unusedVariables false

structure Fr (T : Nat → Prop) (w w' : World) : Prop where
  os : w'.os = w.os
  tape : w'.tape = w.tape
  output : w'.output = w.output
  size : w.heap.size ≤ w'.heap.size
  block : ∀ k, k < w.heap.size → ¬ T k → w'.heap[k]? = w.heap[k]?

section
variable {T U : Nat → Prop} {w w1 w2 : World}
theorem Fr.refl (w : World) : Fr T w w := ⟨rfl, rfl, rfl, Nat.le_refl _, fun _ _ _ => rfl⟩
theorem Fr.trans (h : Fr T w w1) (k : Fr T w1 w2) : Fr T w w2 :=
  ⟨k.os.trans h.os, k.tape.trans h.tape, k.output.trans h.output, Nat.le_trans h.size k.size, fun i hi ht => (k.block i (Nat.lt_of_lt_of_le hi h.size) ht).trans (h.block i hi ht)⟩
theorem Fr.mono (h : Fr T w w1) (hU : ∀ k, k < w.heap.size → T k → U k) : Fr U w w1 := ⟨h.os, h.tape, h.output, h.size, fun k hk hu => h.block k hk (fun ht => hu (hU k hk ht))⟩
/-- what was made meanwhile may be touched -/
theorem Fr.andThen (h : Fr T w w1) (k : Fr U w1 w2) (hU : ∀ b, b < w.heap.size → U b → T b) : Fr T w w2 :=
  ⟨k.os.trans h.os, k.tape.trans h.tape, k.output.trans h.output, Nat.le_trans h.size k.size, fun i hi ht => (k.block i (Nat.lt_of_lt_of_le hi h.size) (fun hu => ht (hU i hi hu))).trans (h.block i hi ht)⟩
theorem Fr.of_below (h : Below w.heap.size w w1) : Fr T w w1 := ⟨h.os, h.tape, h.output, h.size, fun k hk _ => h.block k hk⟩
theorem Fr.below (h : Fr T w w1) {B : Nat} (hB : B ≤ w.heap.size) (hT : ∀ k, k < B → ¬ T k) : Below B w w1 := ⟨h.os, h.tape, h.output, h.size, fun k hk => h.block k (Nat.lt_of_lt_of_le hk hB) (hT k hk)⟩
theorem Fr.of_grown {row : Option Nat} (h : w.grownBy w1 row) (hr : ∀ k, row = some k → T k) : Fr T w w1 := ⟨h.os, h.tape, h.output, h.size, fun k hk ht => h.block k hk (fun e => ht (hr k e.symm))⟩
theorem Fr.of_setCell (w : World) (a : Addr) (v : Value) (ha : T a.block) : Fr T w (w.setCell a v) := ⟨rfl, rfl, rfl, by simp [World.setCell], fun k _ ht => Below.heap_setCell _ _ _ _ (fun e => ht (e ▸ ha))⟩
theorem Fr.setCell (h : Fr T w w1) (a : Addr) (v : Value) (ha : T a.block) : Fr T w (w1.setCell a v) := h.trans (.of_setCell _ _ _ ha)
theorem Fr.alloc (h : Fr T w w1) (o : Obj) : Fr T w (w1.alloc o) := h.trans (.of_below ((Below.refl _ _).alloc (Nat.le_refl _) _))
theorem Fr.drew (h : Fr T w w1) : Fr T w w1.drew := h.trans (.of_below (Below.refl _ _).drew)
theorem Fr.drewN (h : Fr T w w1) (n : Nat) : Fr T w (w1.drewN n) := h.trans (.of_below (below_draws (Below.refl _ _) n))
theorem Fr.same (h : Fr T w w1) {k : Nat} (hk : k < w.heap.size) (ht : ¬ T k) : w1.heap[k]? = w.heap[k]? := h.block k hk ht
theorem Fr.cell (h : Fr T w w1) {a : Addr} (hk : a.block < w.heap.size) (ht : ¬ T a.block) : w1.cell? a = w.cell? a := World.cell?_of_block (h.block _ hk ht)
theorem Fr.frozen (h : Fr T w w1) {a : Addr} (hk : a.block < w.heap.size) (ht : ¬ T a.block) : w1.frozen? a = w.frozen? a := World.frozen?_of_block (h.block _ hk ht)
theorem lt_of_block {w : World} {k : Nat} {o : Obj} (h : w.heap[k]? = some o) : k < w.heap.size := (Array.getElem?_eq_some_iff.1 h).1
/-- a row depends on its own block alone -/
theorem own_same {base : Nat} {e : TypeId} {size n : Nat} {v : Value} {xs : List Value} (h : w.ownsRow base e size v n xs) (hb : ∀ g, v.ownBlock = some g → w1.heap[g]? = w.heap[g]?) : w1.ownsRow base e size v n xs := by
  refine ⟨h.1, ?_⟩
  rcases h.2 with h2 | ⟨g, cap, cur, rfl, h2, h3, h4⟩
  · exact .inl h2
  · exact .inr ⟨g, cap, cur, rfl, h2, (hb g rfl).trans h3, h4⟩
theorem own_base0 {base base' : Nat} {e : TypeId} {size n : Nat} {v : Value} {xs : List Value} (h : w.ownsRow base e size v n xs) (hb : base' ≤ base) : w.ownsRow base' e size v n xs := by
  refine ⟨h.1, ?_⟩
  rcases h.2 with h2 | ⟨g, cap, cur, h1, h2, h3⟩
  · exact .inl h2
  · exact .inr ⟨g, cap, cur, h1, Nat.le_trans hb h2, h3⟩
theorem own_type {base : Nat} {e : TypeId} {size n g : Nat} {v : Value} {xs : List Value} (h : w.ownsRow base e size v n xs) (hg : v.ownBlock = some g) : base ≤ g ∧ ∃ cur, w.heap[g]? = some (.cells cur e (0, 0)) := by
  rcases h.2 with ⟨rfl, _⟩ | ⟨g', cap, cur, rfl, h2, h3, h4⟩
  · cases hg
  · injection hg with hg
    subst hg
    exact ⟨h2, cur, h3⟩
end

section
variable {P : Program} (w : World)
/-- append of one element of whatever size, in a region that draws its order -/
theorem step_append_big {ops : Array Oper} {o : Oper} {a : Act} {K : Act → World → Prop} {Q : Exit → Act → World → Prop} {E : Prop} (hgd : o.guard = none) (s x : Operand) (t : TypeId)
    (ho : o.op = .call { callee := .builtin .append, args := #[s, x], argTypes := #[t, t] })
    (base : Nat) (e : TypeId) (z : Value) (size bytes : Nat) (he : Elem P t e z size bytes)
    (v : Value) (n : Nat) (xs : List Value) (hs : a.eval s = v) (hown : w.ownsRow base e size v n xs) (g0 : Nat) (us : List Value) (hx : a.eval x = .slice (some ⟨g0, 0, none⟩) 1 1) (hus : us.length = size) (hcell : ∀ j u', us[j]? = some u' → w.cell? ((⟨g0, 0, none⟩ : Addr).add j) = some u') (h1 : ∀ u ∈ us, u.oneCell' = true)
    (h63 : n + 1 ≤ maxLen) (hbytes : (n + 1) * bytes ≤ 140737488355328) (hbase : base ≤ w.heap.size)
    (h : ∀ g c' w', w'.ownsRow base e size (.slice (some ⟨g, 0, none⟩) (n + 1) c') (n + 1) (xs ++ us) → w.grownBy w' v.ownBlock → (v.ownBlock = some g ∨ g = w.heap.size) → K (a.put o.dst (.slice (some ⟨g, 0, none⟩) (n + 1) c')) w') :
    if Region.wanted o (yielded ops a.tmps) = true then Oper.wp P o a w K Q else E := by
  obtain ⟨ht, i, hi, hz, hsize, hby, hzs, hsz⟩ := he
  exact step_append_lies w hgd s x t ho base e i z size bytes ht hi hz hsize hby hzs hsz v n xs hs hown ⟨g0, 0, none⟩ 1 1 us hx (by omega) hcell h1 (by omega) h63 hbytes hbase _ rfl fun g cap w' h2 h3 h4 h5 => h _ _ w' h2 h3 h4

/-- many cells are loaded at once: the size is a letter, so that the walk does not open the load -/
theorem big_size {P : Program} {t : TypeId} {s : Nat} (h : (P.info? t).map (·.size) = some s) : ∃ n, n = s ∧ ∀ w : World, (sizeOf t).run P w = .ok n w := by
  refine ⟨s, rfl, fun w => ?_⟩
  cases hq : P.info? t with
  | none => simp [hq] at h
  | some i => simp [hq] at h; simp [sizeOf, typeInfo, hq, h]
theorem big_load (P : Program) (a : Addr) (cs : List Value) (n : Nat) (hn : cs.length = n) (w' : World) (h : ∀ j v, cs[j]? = some v → w'.cell? (a.add j) = some v) : (loadCellsFrom a 0 n #[]).run P w' = .ok cs.toArray w' := by
  subst hn; exact run_loadCells_list (P := P) w' a cs h
theorem big_load0 (P : Program) (b o : Nat) (cs : List Value) (n : Nat) (hn : cs.length = n) (w' : World) (h : w'.rangeAt b o cs) : (loadCellsFrom ⟨b, o, none⟩ 0 n #[]).run P w' = .ok cs.toArray w' :=
  big_load P _ cs n hn w' fun j v hj => by rw [Addr.add_mid]; exact h j v hj

/-- where all orders of a region come to one end -/
def Meet (A : Act) (W : World) : Exit → Act → World → Prop
  | .normal, a, w => a = A ∧ w = W
  | _, _, _ => False
theorem wp_meet {P : Program} {c : Code} {Q : Exit → Act → World → Prop} {a : Act} {w : World} {A : Act} {W : World} (h : c.wp P (Meet A W) a w) (h2 : Q .normal A W) : c.wp P Q a w :=
  Code.wp_mono (fun e a' w' hm => by
    cases e <;> first | exact (hm : False).elim | (obtain ⟨rfl, rfl⟩ := (hm : a' = A ∧ w' = W); exact h2)) h

theorem foldl_set (us : List Value) (l : List Value) : ∀ (k : Nat) (pre : List Value), pre.length = k → us.length ≤ l.length →
    (us.zipIdx k).foldl (fun cs (x : Value × Nat) => cs.setIfInBounds (0 + x.2) x.1) ((pre ++ l).toArray) = (pre ++ us ++ l.drop us.length).toArray := by
  induction us generalizing l with
  | nil => intro k pre _ _; simp
  | cons u r ih =>
    intro k pre hk hl
    cases l with
    | nil => simp at hl
    | cons y l =>
      rw [List.zipIdx_cons, List.foldl_cons]
      have e : (pre ++ y :: l).toArray.setIfInBounds (0 + k) u = ((pre ++ [u]) ++ l).toArray := by
        simp [← hk]
      simp only [e]
      rw [ih l (k + 1) (pre ++ [u]) (by simp [hk]) (by simpa using hl)]
      simp
theorem fold_box (Z : Array Value) (k : Nat) (us : List Value) (n : Nat) (hl : us.length = n) :
    List.foldl (fun (cs : Array Value) (x : Value × Nat) => cs.setIfInBounds x.snd x.fst) (Array.map (fun x => Z[x % k]!) (Array.range n)) us.zipIdx = us.toArray := by
  have hf := foldl_set us ((Array.range n).map (fun i => Z[i % k]!)).toList 0 [] rfl (by simp; omega)
  have hd : (((Array.range n).map (fun i => Z[i % k]!)).toList.drop us.length) = [] := List.drop_eq_nil_of_le (by simp; omega)
  rw [hd] at hf
  simp only [List.nil_append, List.append_nil, Array.toArray_toList, Nat.zero_add] at hf
  exact hf
/-- 'T{x}' of one element of whatever size, as append's call lays it -/
theorem run_buildSlice_one {t e : TypeId} {z : Value} {size bytes : Nat} (he : Elem P t e z size bytes) (hs : size ≤ 1000) (us : List Value) (hl : us.length = size) :
    (Instr.buildSlice t 1 #[(0, .agg us.toArray)]).run P w = .ok (.slice (some ⟨w.heap.size, 0, none⟩) 1 1) (w.alloc (.cells us.toArray e)) := by
  obtain ⟨ht, i, hi, hz, hsize, hby, hzs, hsz⟩ := he
  have e1 : ¬ size > 2 ^ 24 := by omega
  have e2 : ¬ size = 0 := by omega
  have hf := foldl_set us ((Array.range size).map (fun i => z.cells[i % z.cells.size]!)).toList 0 [] rfl (by simp; omega)
  have hd : (((Array.range size).map (fun i => z.cells[i % z.cells.size]!)).toList.drop us.length) = [] := List.drop_eq_nil_of_le (by simp; omega)
  rw [hd] at hf
  simp only [List.nil_append, List.append_nil, Array.toArray_toList] at hf
  have hc : us.length ≤ size := by omega
  have hcu : (Value.agg us.toArray).cells = us.toArray := rfl
  simp only [Nat.zero_add] at hf
  simp [Instr.buildSlice, run_underlying ht, sizeOf, typeInfo, hi, hsize, e1, e2, zeroValue, hz, Instr.fill, hcu, hl, newRow, newObj]
  rw [hf]
  rfl
end
end Go.Proofs.Ythgjlofebicpiaa

/-
  Blocks of many cells, known whole: read and laid at once. Nothing here speaks of one program.
-/
namespace Go.Proofs.Ythgjlofebicpiaa
open Go.RowKit
set_option linter.unusedVariables false

/-- a block of a few cells, known whole -/
def Box (w : World) (b : Nat) (T : TypeId) (cs : List Value) : Prop := w.heap[b]? = some (.cells cs.toArray T (0, 0))
section
variable {w w' : World} {b : Nat} {T : TypeId} {cs : List Value}
theorem Box.lt (h : Box w b T cs) : b < w.heap.size := lt_of_block h
theorem Box.same (h : Box w b T cs) (hb : w'.heap[b]? = w.heap[b]?) : Box w' b T cs := hb.trans h
theorem Box.cell (h : Box w b T cs) (k : Nat) : w.cell? ⟨b, k, none⟩ = cs[k]? := by
  have := cell_of_row w b k _ _ _ h
  simpa using this
theorem Box.frozen (h : Box w b T cs) (k : Nat) : w.frozen? ⟨b, k, none⟩ = false := frozen_of_row _ _ _ _ _ h
theorem Box.set (h : Box w b T cs) (k : Nat) (v : Value) : Box (w.setCell ⟨b, k, none⟩ v) b T (cs.set k v) := (heap_setCell_same _ _ _ _ _ _ h).trans (by simp)
theorem Box.ne {b' : Nat} {T' : TypeId} {cs' : List Value} (h : Box w b T cs) (h' : Box w b' T' cs') (hn : T ≠ T') : b ≠ b' := by
  rintro rfl
  unfold Box at h h'
  rw [h'] at h
  injection h with h
  injection h with _ h
  exact hn h.symm
theorem Box.ne_row {base sz n g : Nat} {e : TypeId} {v : Value} {xs : List Value} (h : Box w b T cs) (hr : w.ownsRow base e sz v n xs) (hg : v.ownBlock = some g) (hn : T ≠ e) : b ≠ g := by
  rintro rfl
  obtain ⟨_, cur, h2⟩ := own_type hr hg
  unfold Box at h
  rw [h2] at h
  injection h with h
  injection h with _ h
  exact hn h.symm
theorem Box.new (w : World) (T : TypeId) (cs : List Value) : Box (w.alloc (.cells cs.toArray T)) w.heap.size T cs := (MapKept.heap_alloc w _).1
/-- a box stays where calls only make memory -/
theorem Box.below {B : Nat} (h : Box w b T cs) (hb : Below B w w') (hB : b < B) : Box w' b T cs := h.same (hb.block _ hB)
theorem Box.on (h : Box w b T cs) (hb : Below w.heap.size w w') : Box w' b T cs := h.below hb h.lt
theorem Box.range (h : Box w b T cs) (o : Nat) (us : List Value) (hu : ∀ j v, us[j]? = some v → cs[o + j]? = some v) : w.rangeAt b o us := fun j v hj => (h.cell (o + j)).trans (hu j v hj)
theorem Box.range0 (h : Box w b T cs) : w.rangeAt b 0 cs := h.range 0 cs fun j v hj => by rw [Nat.zero_add]; exact hj
theorem Box.grown {g : Nat} (h : Box w b T cs) (hg : w.grownBy w' (some g)) (hne : b ≠ g) : Box w' b T cs := h.same (hg.block b h.lt fun e => hne (Option.some.inj e))
/-- an array's variable as a row of its own -/
theorem Box.own (h : Box w b T cs) {n : Nat} (hn : cs.length = n) (hm : n ≤ maxLen) (base : Nat) (hb : base ≤ b) : w.ownsRow base T 1 (.slice (some ⟨b, 0, none⟩) n n) n cs := by
  refine ⟨by rw [hn, Nat.mul_one], .inr ⟨b, n, cs.toArray, rfl, hb, h, Nat.le_refl _, hm, by simp [hn], ?_⟩⟩
  simp
  exact List.take_of_length_le (by omega)
theorem Box.of_own {base n : Nat} (h : w.ownsRow base T 1 (.slice (some ⟨b, 0, none⟩) n n) n cs) (hn : 0 < n) : Box w b T cs := by
  rcases h.2 with ⟨h2, _⟩ | ⟨g, cap, cur, h1, _, h3, _, _, h5, h6⟩
  · cases h2
  · injection h1 with h1 _ h2
    injection h1 with h1
    injection h1 with h1
    subst h1
    subst h2
    have e : cur = cs.toArray := by
      rw [← h6, List.take_of_length_le (by simp; omega)]
    exact h3.trans (by rw [e])
theorem below_grown {w w' : World} {g : Nat} {B : Nat} (h : w.grownBy w' (some g)) (hB : B ≤ g) (hs : B ≤ w.heap.size) : Below B w w' := (Below.refl _ _).grown h hs fun k hk => by injection hk with hk; omega
end

theorem foldl_set_off (off : Nat) (us : List Value) (l : List Value) : ∀ (k : Nat) (pre : List Value), pre.length = off + k → us.length ≤ l.length →
    (us.zipIdx k).foldl (fun cs (x : Value × Nat) => cs.setIfInBounds (off + x.2) x.1) ((pre ++ l).toArray) = (pre ++ us ++ l.drop us.length).toArray := by
  induction us generalizing l with
  | nil => intro k pre _ _; simp
  | cons u r ih =>
    intro k pre hk hl
    cases l with
    | nil => simp at hl
    | cons y l =>
      rw [List.zipIdx_cons, List.foldl_cons]
      have e : (pre ++ y :: l).toArray.setIfInBounds (off + k) u = ((pre ++ [u]) ++ l).toArray := by
        simp [← hk]
      simp only [e]
      rw [ih l (k + 1) (pre ++ [u]) (by simp [hk]; omega) (by simpa using hl)]
      simp
theorem fill_int (pl : Nat → Option (Nat × Nat)) (pre rest : List Value) (x0 : Value) (k : IntKind) (n : Int) (i off : Nat) (more : List (Nat × Value)) (hpl : pl i = some (off, 1)) (hoff : pre.length = off) :
    Instr.fill pl (pre ++ x0 :: rest).toArray ((i, .int k n) :: more) = Instr.fill pl (pre ++ Value.int k n :: rest).toArray more := by
  have e : (Value.int k n).cells = #[Value.int k n] := rfl
  conv => lhs; unfold Instr.fill
  simp only [hpl, e]
  rw [if_neg (by simp; omega)]
  congr 1
  subst hoff
  simp
theorem fill_end (pl : Nat → Option (Nat × Nat)) (pre old us : List Value) (i off : Nat) (hpl : pl i = some (off, us.length)) (hoff : pre.length = off) (hl : us.length = old.length) :
    Instr.fill pl (pre ++ old).toArray [(i, .agg us.toArray)] = some (pre ++ us).toArray := by
  have e : (Value.agg us.toArray).cells = us.toArray := rfl
  have hf := foldl_set_off off us old 0 pre (by omega) (by omega)
  rw [List.drop_eq_nil_of_le (by omega), List.append_nil] at hf
  unfold Instr.fill
  simp only [hpl, e]
  rw [if_neg (by simp; omega)]
  unfold Instr.fill
  rw [← Array.foldl_toList, Array.toList_zipIdx, hf]
/-- many cells are stored at once -/
theorem big_store (P : Program) (w : World) (g : Nat) (t ty : TypeId) (old : Array Value) (cs : List Value) (hg : w.heap[g]? = some (.cells old t (0, 0))) (hi : (P.info? ty).map (·.size) = some cs.length)
    (ho : old.size = cs.length) (h1 : ∀ u ∈ cs, u.oneCell' = true) : (storeCells ⟨g, 0, none⟩ cs 0).run P w = .ok () (w.setRow g cs.toArray) := by
  have := run_storeVar_row (P := P) w g t ty old cs.toArray hg (by simpa using hi) (by simpa using ho) (all_oneCell_toArray h1)
  cases hq : P.info? ty with
  | none => simp [hq] at hi
  | some i =>
    have hs : cs.length = i.size := by simp [hq] at hi; omega
    simpa [storeVar, sizeOf, typeInfo, hq, Value.cells, hs] using this
theorem big_all_eq : ∀ (xs ys : List Int), xs.length = ys.length → ((List.range xs.length).all fun i => xs.getD i 0 == ys.getD i 0) = (xs == ys)
  | [], [], _ => rfl
  | x :: xs, y :: ys, h => by
    have ih := big_all_eq xs ys (by simpa using h)
    rw [List.length_cons, List.range_succ_eq_map, List.all_cons, List.all_map]
    simp only [List.getD_cons_zero, Function.comp_def, List.getD_cons_succ, ih]
    simp [List.cons_beq_cons]
  | [], _ :: _, h => by simp at h
  | _ :: _, [], h => by simp at h
section
variable {P : Program} (w : World)
/-- two arrays of integers are compared -/
theorem big_equal (d : Nat) (t e : TypeId) (n : Nat) (k : IntKind) (ht : P.underlying t = some (.array n e)) (he : P.underlying e = some (.int k)) (hsz : ∀ w, (sizeOf e).run P w = .ok 1 w)
    (xs ys : List Int) (hx : xs.length = n) (hy : ys.length = n) :
    (Op.equalIn (d + 2) t (.agg (xs.map (Value.int k)).toArray) (.agg (ys.map (Value.int k)).toArray)).run P w = .ok (xs == ys) w := by
  rw [← big_all_eq xs ys (hx.trans hy.symm), hx, List.range_eq_range', Op.equalIn]
  simp only [Sem.run_bind, run_underlying ht, Result.andThen_ok, hsz, Std.Legacy.Range.forIn_eq_forIn_range', Std.Legacy.Range.size, Nat.sub_zero, Nat.add_sub_cancel, Nat.div_one]
  have hl : ∀ i ∈ List.range' 0 n 1, i < n := fun i hi => by simpa using (List.mem_range'_1.1 hi).2
  generalize List.range' 0 n 1 = l at hl ⊢
  induction l with
  | nil => simp
  | cons i l ih =>
    have hi : i < n := hl i (by simp)
    have px : (part e (xs.map (Value.int k)).toArray (i * 1)).run P w = .ok (.int k (xs.getD i 0)) w := by
      simp [part, isAgg, run_underlying he, List.getD, List.getElem?_eq_getElem (show i < xs.length by omega)]
    have py : (part e (ys.map (Value.int k)).toArray (i * 1)).run P w = .ok (.int k (ys.getD i 0)) w := by
      simp [part, isAgg, run_underlying he, List.getD, List.getElem?_eq_getElem (show i < ys.length by omega)]
    have pe : (Op.equalIn (d + 1) e (.int k (xs.getD i 0)) (.int k (ys.getD i 0))).run P w = .ok (xs.getD i 0 == ys.getD i 0) w := run_equalIn_int w d e k k _ _ he
    simp only [List.forIn_cons, Sem.run_bind, px, py, pe, Result.andThen_ok, List.all_cons]
    cases hb : (xs.getD i 0 == ys.getD i 0)
    · simp
    · simp only [Bool.not_true, Bool.false_eq_true, if_false, Sem.run_pure, Result.andThen_ok, Bool.true_and]
      exact ih fun j hj => hl j (by simp [hj])
theorem big_eql (t e : TypeId) (n : Nat) (k : IntKind) (ht : P.underlying t = some (.array n e)) (he : P.underlying e = some (.int k)) (hsz : ∀ w, (sizeOf e).run P w = .ok 1 w)
    (xs ys : List Int) (hx : xs.length = n) (hy : ys.length = n) : (binOp .eql t (.agg (xs.map (Value.int k)).toArray) (.agg (ys.map (Value.int k)).toArray)).run P w = .ok (.bool (xs == ys)) w := by
  rw [run_eql_struct, big_equal w 9998 t e n k ht he hsz xs ys hx hy]
  rfl
theorem big_neq (t e : TypeId) (n : Nat) (k : IntKind) (ht : P.underlying t = some (.array n e)) (he : P.underlying e = some (.int k)) (hsz : ∀ w, (sizeOf e).run P w = .ok 1 w)
    (xs ys : List Int) (hx : xs.length = n) (hy : ys.length = n) : (binOp .neq t (.agg (xs.map (Value.int k)).toArray) (.agg (ys.map (Value.int k)).toArray)).run P w = .ok (.bool (!(xs == ys))) w := by
  rw [run_neq_struct, big_equal w 9998 t e n k ht he hsz xs ys hx hy]
  rfl
/-- the zero value of an array or a struct of whatever size -/
theorem wpList_build_zero {ops : Array Oper} {rest : List Oper} {o : Oper} {a : Act} {Q : Exit → Act → World → Prop} (hgd : o.guard = none) (t : TypeId) (ho : o.op = .build t #[]) (cs : List Value) (hb : ∀ w, (Instr.build t #[]).run P w = .ok (.agg cs.toArray) w)
    (h : wpList P ops Q rest (a.put o.dst (.agg cs.toArray)) w) : wpList P ops Q (o :: rest) a w := by
  refine wpList_plain hgd fun K hK => ?_
  unfold Oper.wp
  simp [execOp, ho, hb w, Result.andThen]
  exact hK _ _ h
/-- a variable of whatever size is made -/
theorem wpList_alloc_box {ops : Array Oper} {rest : List Oper} {o : Oper} {a : Act} {Q : Exit → Act → World → Prop} (hgd : o.guard = none) (t : TypeId) (ho : o.op = .alloc t) (cs : List Value) (hz : ∀ w, (zeroValue t).run P w = .ok (.agg cs.toArray) w)
    (h : ∀ w', Box w' w.heap.size t cs → Below w.heap.size w w' → w'.heap.size = w.heap.size + 1 → wpList P ops Q rest (a.put o.dst (.pointer (some ⟨w.heap.size, 0, none⟩))) w') : wpList P ops Q (o :: rest) a w := by
  refine wpList_plain hgd fun K hK => ?_
  have e : (Instr.alloc t true (.tuple #[])).run P w = .ok (.pointer (some ⟨w.heap.size, 0, none⟩)) (w.alloc (.cells cs.toArray t)) := by
    simp [Instr.alloc, hz w, newVar, newRow, newObj, Value.cells]
    rfl
  unfold Oper.wp execOp
  simp only [ho, Sem.run_bind, e, Result.andThen_ok]
  exact hK _ _ (h _ (Box.new w t cs) ((Below.refl _ _).alloc (Nat.le_refl _) _) (by simp))
/-- a value of whatever size is laid into a new variable -/
theorem wpList_box_box {ops : Array Oper} {rest : List Oper} {o : Oper} {a : Act} {Q : Exit → Act → World → Prop} (hgd : o.guard = none) (t : TypeId) (x : Operand) (ho : o.op = .box t x) (cs : List Value) (hx : a.eval x = .agg cs.toArray)
    (h : ∀ w', Box w' w.heap.size t cs → Below w.heap.size w w' → w'.heap.size = w.heap.size + 1 → wpList P ops Q rest (a.put o.dst (.pointer (some ⟨w.heap.size, 0, none⟩))) w') : wpList P ops Q (o :: rest) a w := by
  refine wpList_plain hgd fun K hK => ?_
  have e : (Instr.box t (.agg cs.toArray)).run P w = .ok (.pointer (some ⟨w.heap.size, 0, none⟩)) (w.alloc (.cells cs.toArray t)) := by
    simp [Instr.box, newVar, newRow, newObj, Value.cells]
    rfl
  unfold Oper.wp execOp
  simp only [ho, hx, Sem.run_bind, e, Result.andThen_ok]
  exact hK _ _ (h _ (Box.new w t cs) ((Below.refl _ _).alloc (Nat.le_refl _) _) (by simp))
/-- a variable of whatever size is laid -/
theorem wpList_store_box {ops : Array Oper} {rest : List Oper} {o : Oper} {a : Act} {Q : Exit → Act → World → Prop} (hgd : o.guard = none) (t : TypeId) (x y : Operand) (ho : o.op = .store t x y) (g : Nat) (cs old : List Value) (hsz : (P.info? t).map (·.size) = some cs.length) (hold : old.length = cs.length)
    (h1 : ∀ u ∈ cs, u.oneCell' = true) (hx : a.eval x = .pointer (some ⟨g, 0, none⟩)) (hy : a.eval y = .agg cs.toArray) (hb : Box w g t old)
    (h : wpList P ops Q rest (a.put o.dst undef) (w.setRow g cs.toArray)) : wpList P ops Q (o :: rest) a w := by
  refine wpList_plain hgd fun K hK => ?_
  have hr := run_storeVar_row (P := P) w g t t old.toArray cs.toArray hb (by simpa using hsz) (by simp [hold]) (all_oneCell_toArray h1)
  unfold Oper.wp execOp
  simp only [ho, hx, hy, Instr.storeAt, Instr.sureAddr, Sem.run_bind, Sem.run_pure, Result.andThen_ok, hr]
  exact hK _ _ h
/-- a variable of whatever size is read -/
theorem wpList_load_box {ops : Array Oper} {rest : List Oper} {o : Oper} {a : Act} {Q : Exit → Act → World → Prop} (hgd : o.guard = none) (t : TypeId) (x : Operand) (ho : o.op = .load t x) (g off : Nat) (cs : List Value) (d : TypeDesc) (hu : P.underlying t = some d) (hd : d.isRow = true) (hsz : (P.info? t).map (·.size) = some cs.length)
    (hx : a.eval x = .pointer (some ⟨g, off, none⟩)) (hb : w.rangeAt g off cs)
    (h : wpList P ops Q rest (a.put o.dst (.agg cs.toArray)) w) : wpList P ops Q (o :: rest) a w := by
  refine wpList_plain hgd fun K hK => ?_
  have hr := run_loadAt_mid w g off t cs d hb hu hd hsz
  unfold Oper.wp execOp
  simp only [ho, hx, Sem.run_bind, hr, Result.andThen_ok]
  exact hK _ _ h
end
theorem Fr.setRow {T : Nat → Prop} {w w1 : World} (h : Fr T w w1) (g : Nat) (cs : Array Value) (hg : T g) : Fr T w (w1.setRow g cs) :=
  h.trans ⟨rfl, rfl, rfl, by simp, fun k _ ht => setRow_other _ _ _ _ (fun e => ht (e ▸ hg))⟩
end Go.Proofs.Ythgjlofebicpiaa

/-
  Sectors (pages of 64 bytes) as blocks known whole: made, read, laid, compared.
-/
namespace Go.Proofs.Ythgjlofebicpiaa
open Go.RowKit Word
set_option linter.unusedVariables false

abbrev pg0 : List Int := List.replicate 64 0
theorem size_u8 (w : World) : (sizeOf 5).run Try.prog w = .ok 1 w := by go_simp
theorem pg_zero (w : World) : (zeroValue 62).run Try.prog w = .ok (.agg (bs pg0).toArray) w :=
  (zero_of_info (P := Try.prog) (t := 62) (v := .agg (bs pg0).toArray) (n := 64) (by kernel_rfl)).1 w
theorem pg_build (w : World) : (Instr.build 62 #[]).run Try.prog w = .ok (.agg (bs pg0).toArray) w := by
  unfold Instr.build
  simp only [Sem.run_bind, pg_zero w, Result.andThen, run_underlying Try.underlying62, size_u8]
  rfl
theorem pg_equal (w : World) (xs ys : List Int) (hx : xs.length = 64) (hy : ys.length = 64) : (Op.equalIn 10000 62 (.agg (bs xs).toArray) (.agg (bs ys).toArray)).run Try.prog w = .ok (xs == ys) w :=
  big_equal w 9998 _ _ 64 .u8 Try.underlying62 Try.underlying5 size_u8 xs ys hx hy
theorem pg_guard : Try.prog.eqGuardType Try.prog.depth 62 = false := by kernel_rfl
theorem pg_size {p : List Int} (hp : p.length = 64) : (Try.prog.info? 62).map (·.size) = some (bs p).length := by rw [bs_length, hp]; kernel_rfl
section
variable {w : World} {ops : Array Oper} {rest : List Oper} {o : Oper} {a : Act} {Q : Exit → Act → World → Prop}
theorem wpList_pg_load (hgd : o.guard = none) (x : Operand) (ho : o.op = .load 62 x) (g : Nat) (p : List Int) (hp : p.length = 64) (hx : a.eval x = .pointer (some ⟨g, 0, none⟩)) (hb : Box w g 62 (bs p))
    (h : wpList Try.prog ops Q rest (a.put o.dst (.agg (bs p).toArray)) w) : wpList Try.prog ops Q (o :: rest) a w :=
  wpList_load_box w hgd _ x ho g 0 (bs p) _ Try.underlying62 rfl (pg_size hp) hx hb.range0 h
theorem wpList_pg_store (hgd : o.guard = none) (x y : Operand) (ho : o.op = .store 62 x y) (g : Nat) (p old : List Int) (hp : p.length = 64) (hold : old.length = 64) (hx : a.eval x = .pointer (some ⟨g, 0, none⟩)) (hy : a.eval y = .agg (bs p).toArray) (hb : Box w g 62 (bs old))
    (h : ∀ w', Box w' g 62 (bs p) → w.grownBy w' (some g) → w'.heap.size = w.heap.size → wpList Try.prog ops Q rest (a.put o.dst undef) w') : wpList Try.prog ops Q (o :: rest) a w :=
  wpList_store_box w hgd _ x y ho g (bs p) (bs old) (pg_size hp) (by rw [bs_length, bs_length, hp, hold]) (fun u hu => bs_one _ _ hu) hx hy hb
    (h _ (setRow_heap w g _ _ _ _ hb) ⟨rfl, rfl, rfl, by simp [World.setRow], fun k _ hk => setRow_other w g k _ (by intro e; exact hk (by rw [e]))⟩ (by simp [World.setRow]))
theorem wpList_pg_alloc (hgd : o.guard = none) (ho : o.op = .alloc 62)
    (h : ∀ w', Box w' w.heap.size 62 (bs pg0) → Below w.heap.size w w' → w'.heap.size = w.heap.size + 1 → wpList Try.prog ops Q rest (a.put o.dst (.pointer (some ⟨w.heap.size, 0, none⟩))) w') : wpList Try.prog ops Q (o :: rest) a w :=
  wpList_alloc_box w hgd _ ho (bs pg0) pg_zero h
theorem wpList_pg_box (hgd : o.guard = none) (x : Operand) (ho : o.op = .box 62 x) (p : List Int) (hx : a.eval x = .agg (bs p).toArray)
    (h : ∀ w', Box w' w.heap.size 62 (bs p) → Below w.heap.size w w' → w'.heap.size = w.heap.size + 1 → wpList Try.prog ops Q rest (a.put o.dst (.pointer (some ⟨w.heap.size, 0, none⟩))) w') : wpList Try.prog ops Q (o :: rest) a w :=
  wpList_box_box w hgd _ x ho (bs p) hx h
end
end Go.Proofs.Ythgjlofebicpiaa

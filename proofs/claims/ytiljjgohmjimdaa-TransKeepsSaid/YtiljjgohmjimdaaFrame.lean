/-
  What a call may touch: a set of blocks. 'Fr T w w'': of the blocks of w all but those of T are what they were. Nothing here speaks of one program.
-/
import Derived.Test.YtiljjgohmjimdaaMem
import Derived.Laws.IdiomCopy
import Derived.Deep.MidRow
namespace Go.Proofs.Ytiljjgohmjimdaa
open Go.RowKit
set_option linter.unusedVariables false

structure Fr (T : Nat → Prop) (w w' : World) : Prop where
  os : w'.os = w.os
  tape : w'.tape = w.tape
  output : w'.output = w.output
  size : w.heap.size ≤ w'.heap.size
  block : ∀ k, k < w.heap.size → ¬ T k → w'.heap[k]? = w.heap[k]?

section
variable {T U : Nat → Prop} {w w1 w2 : World}
theorem Fr.refl (w : World) : Fr T w w := ⟨rfl, rfl, rfl, Nat.le_refl _, fun _ _ _ => rfl⟩
theorem Fr.trans (h : Fr T w w1) (k : Fr T w1 w2) : Fr T w w2 :=
  ⟨k.os.trans h.os, k.tape.trans h.tape, k.output.trans h.output, Nat.le_trans h.size k.size, fun i hi ht => (k.block i (Nat.lt_of_lt_of_le hi h.size) ht).trans (h.block i hi ht)⟩
theorem Fr.mono (h : Fr T w w1) (hU : ∀ k, k < w.heap.size → T k → U k) : Fr U w w1 := ⟨h.os, h.tape, h.output, h.size, fun k hk hu => h.block k hk (fun ht => hu (hU k hk ht))⟩
/-- what was made meanwhile may be touched -/
theorem Fr.andThen (h : Fr T w w1) (k : Fr U w1 w2) (hU : ∀ b, b < w.heap.size → U b → T b) : Fr T w w2 :=
  ⟨k.os.trans h.os, k.tape.trans h.tape, k.output.trans h.output, Nat.le_trans h.size k.size, fun i hi ht => (k.block i (Nat.lt_of_lt_of_le hi h.size) (fun hu => ht (hU i hi hu))).trans (h.block i hi ht)⟩
theorem Fr.of_below (h : Below w.heap.size w w1) : Fr T w w1 := ⟨h.os, h.tape, h.output, h.size, fun k hk _ => h.block k hk⟩
theorem Fr.below (h : Fr T w w1) {B : Nat} (hB : B ≤ w.heap.size) (hT : ∀ k, k < B → ¬ T k) : Below B w w1 := ⟨h.os, h.tape, h.output, h.size, fun k hk => h.block k (Nat.lt_of_lt_of_le hk hB) (hT k hk)⟩
theorem Fr.of_grown {row : Option Nat} (h : w.grownBy w1 row) (hr : ∀ k, row = some k → T k) : Fr T w w1 := ⟨h.os, h.tape, h.output, h.size, fun k hk ht => h.block k hk (fun e => ht (hr k e.symm))⟩
theorem Fr.of_setCell (w : World) (a : Addr) (v : Value) (ha : T a.block) : Fr T w (w.setCell a v) := ⟨rfl, rfl, rfl, by simp [World.setCell], fun k _ ht => Below.heap_setCell _ _ _ _ (fun e => ht (e ▸ ha))⟩
theorem Fr.setCell (h : Fr T w w1) (a : Addr) (v : Value) (ha : T a.block) : Fr T w (w1.setCell a v) := h.trans (.of_setCell _ _ _ ha)
theorem Fr.alloc (h : Fr T w w1) (o : Obj) : Fr T w (w1.alloc o) := h.trans (.of_below ((Below.refl _ _).alloc (Nat.le_refl _) _))
theorem Fr.drew (h : Fr T w w1) : Fr T w w1.drew := h.trans (.of_below (Below.refl _ _).drew)
theorem Fr.drewN (h : Fr T w w1) (n : Nat) : Fr T w (w1.drewN n) := h.trans (.of_below (below_draws (Below.refl _ _) n))
theorem Fr.same (h : Fr T w w1) {k : Nat} (hk : k < w.heap.size) (ht : ¬ T k) : w1.heap[k]? = w.heap[k]? := h.block k hk ht
theorem Fr.cell (h : Fr T w w1) {a : Addr} (hk : a.block < w.heap.size) (ht : ¬ T a.block) : w1.cell? a = w.cell? a := World.cell?_of_block (h.block _ hk ht)
theorem Fr.frozen (h : Fr T w w1) {a : Addr} (hk : a.block < w.heap.size) (ht : ¬ T a.block) : w1.frozen? a = w.frozen? a := World.frozen?_of_block (h.block _ hk ht)
theorem lt_of_block {w : World} {k : Nat} {o : Obj} (h : w.heap[k]? = some o) : k < w.heap.size := (Array.getElem?_eq_some_iff.1 h).1
/-- a row depends on its own block alone -/
theorem own_same {base : Nat} {e : TypeId} {size n : Nat} {v : Value} {xs : List Value} (h : w.ownsRow base e size v n xs) (hb : ∀ g, v.ownBlock = some g → w1.heap[g]? = w.heap[g]?) : w1.ownsRow base e size v n xs := by
  refine ⟨h.1, ?_⟩
  rcases h.2 with h2 | ⟨g, cap, cur, rfl, h2, h3, h4⟩
  · exact .inl h2
  · exact .inr ⟨g, cap, cur, rfl, h2, (hb g rfl).trans h3, h4⟩
theorem own_base0 {base base' : Nat} {e : TypeId} {size n : Nat} {v : Value} {xs : List Value} (h : w.ownsRow base e size v n xs) (hb : base' ≤ base) : w.ownsRow base' e size v n xs := by
  refine ⟨h.1, ?_⟩
  rcases h.2 with h2 | ⟨g, cap, cur, h1, h2, h3⟩
  · exact .inl h2
  · exact .inr ⟨g, cap, cur, h1, Nat.le_trans hb h2, h3⟩
theorem own_type {base : Nat} {e : TypeId} {size n g : Nat} {v : Value} {xs : List Value} (h : w.ownsRow base e size v n xs) (hg : v.ownBlock = some g) : base ≤ g ∧ ∃ cur, w.heap[g]? = some (.cells cur e (0, 0)) := by
  rcases h.2 with ⟨rfl, _⟩ | ⟨g', cap, cur, rfl, h2, h3, h4⟩
  · cases hg
  · injection hg with hg
    subst hg
    exact ⟨h2, cur, h3⟩
end

section
variable {P : Program} (w : World)
/-- append of one element of whatever size, in a region that draws its order -/
theorem step_append_big {ops : Array Oper} {o : Oper} {a : Act} {K : Act → World → Prop} {Q : Exit → Act → World → Prop} {E : Prop} (hgd : o.guard = none) (s x : Operand) (t : TypeId)
    (ho : o.op = .call { callee := .builtin .append, args := #[s, x], argTypes := #[t, t] })
    (base : Nat) (e : TypeId) (z : Value) (size bytes : Nat) (he : Elem P t e z size bytes)
    (v : Value) (n : Nat) (xs : List Value) (hs : a.eval s = v) (hown : w.ownsRow base e size v n xs) (g0 : Nat) (us : List Value) (hx : a.eval x = .slice (some ⟨g0, 0, none⟩) 1 1) (hus : us.length = size) (hcell : ∀ j u', us[j]? = some u' → w.cell? ((⟨g0, 0, none⟩ : Addr).add j) = some u') (h1 : ∀ u ∈ us, u.oneCell' = true)
    (h63 : n + 1 ≤ maxLen) (hbytes : (n + 1) * bytes ≤ 140737488355328) (hbase : base ≤ w.heap.size)
    (h : ∀ g c' w', w'.ownsRow base e size (.slice (some ⟨g, 0, none⟩) (n + 1) c') (n + 1) (xs ++ us) → w.grownBy w' v.ownBlock → (v.ownBlock = some g ∨ g = w.heap.size) → K (a.put o.dst (.slice (some ⟨g, 0, none⟩) (n + 1) c')) w') :
    if Region.wanted o (yielded ops a.tmps) = true then Oper.wp P o a w K Q else E := by
  obtain ⟨ht, i, hi, hz, hsize, hby, hzs, hsz⟩ := he
  exact step_append_lies w hgd s x t ho base e i z size bytes ht hi hz hsize hby hzs hsz v n xs hs hown ⟨g0, 0, none⟩ 1 1 us hx (by omega) hcell h1 (by omega) h63 hbytes hbase _ rfl fun g cap w' h2 h3 h4 h5 => h _ _ w' h2 h3 h4

/-- many cells are loaded at once: the size is a letter, so that the walk does not open the load -/
theorem big_size {P : Program} {t : TypeId} {s : Nat} (h : (P.info? t).map (·.size) = some s) : ∃ n, n = s ∧ ∀ w : World, (sizeOf t).run P w = .ok n w := by
  refine ⟨s, rfl, fun w => ?_⟩
  cases hq : P.info? t with
  | none => simp [hq] at h
  | some i => simp [hq] at h; simp [sizeOf, typeInfo, hq, h]
theorem big_load (P : Program) (a : Addr) (cs : List Value) (n : Nat) (hn : cs.length = n) (w' : World) (h : ∀ j v, cs[j]? = some v → w'.cell? (a.add j) = some v) : (loadCellsFrom a 0 n #[]).run P w' = .ok cs.toArray w' := by
  subst hn; exact run_loadCells_list (P := P) w' a cs h
theorem big_load0 (P : Program) (b o : Nat) (cs : List Value) (n : Nat) (hn : cs.length = n) (w' : World) (h : w'.rangeAt b o cs) : (loadCellsFrom ⟨b, o, none⟩ 0 n #[]).run P w' = .ok cs.toArray w' :=
  big_load P _ cs n hn w' fun j v hj => by rw [Addr.add_mid]; exact h j v hj

/-- where all orders of a region come to one end -/
def Meet (A : Act) (W : World) : Exit → Act → World → Prop
  | .normal, a, w => a = A ∧ w = W
  | _, _, _ => False
theorem wp_meet {P : Program} {c : Code} {Q : Exit → Act → World → Prop} {a : Act} {w : World} {A : Act} {W : World} (h : c.wp P (Meet A W) a w) (h2 : Q .normal A W) : c.wp P Q a w :=
  Code.wp_mono (fun e a' w' hm => by
    cases e <;> first | exact (hm : False).elim | (obtain ⟨rfl, rfl⟩ := (hm : a' = A ∧ w' = W); exact h2)) h

theorem foldl_set (us : List Value) (l : List Value) : ∀ (k : Nat) (pre : List Value), pre.length = k → us.length ≤ l.length →
    (us.zipIdx k).foldl (fun cs (x : Value × Nat) => cs.setIfInBounds (0 + x.2) x.1) ((pre ++ l).toArray) = (pre ++ us ++ l.drop us.length).toArray := by
  induction us generalizing l with
  | nil => intro k pre _ _; simp
  | cons u r ih =>
    intro k pre hk hl
    cases l with
    | nil => simp at hl
    | cons y l =>
      rw [List.zipIdx_cons, List.foldl_cons]
      have e : (pre ++ y :: l).toArray.setIfInBounds (0 + k) u = ((pre ++ [u]) ++ l).toArray := by
        simp [← hk]
      simp only [e]
      rw [ih l (k + 1) (pre ++ [u]) (by simp [hk]) (by simpa using hl)]
      simp
theorem fold_box (Z : Array Value) (k : Nat) (us : List Value) (n : Nat) (hl : us.length = n) :
    List.foldl (fun (cs : Array Value) (x : Value × Nat) => cs.setIfInBounds x.snd x.fst) (Array.map (fun x => Z[x % k]!) (Array.range n)) us.zipIdx = us.toArray := by
  have hf := foldl_set us ((Array.range n).map (fun i => Z[i % k]!)).toList 0 [] rfl (by simp; omega)
  have hd : (((Array.range n).map (fun i => Z[i % k]!)).toList.drop us.length) = [] := List.drop_eq_nil_of_le (by simp; omega)
  rw [hd] at hf
  simp only [List.nil_append, List.append_nil, Array.toArray_toList, Nat.zero_add] at hf
  exact hf
/-- 'T{x}' of one element of whatever size, as append's call lays it -/
theorem run_buildSlice_one {t e : TypeId} {z : Value} {size bytes : Nat} (he : Elem P t e z size bytes) (hs : size ≤ 1000) (us : List Value) (hl : us.length = size) :
    (Instr.buildSlice t 1 #[(0, .agg us.toArray)]).run P w = .ok (.slice (some ⟨w.heap.size, 0, none⟩) 1 1) (w.alloc (.cells us.toArray e)) := by
  obtain ⟨ht, i, hi, hz, hsize, hby, hzs, hsz⟩ := he
  have e1 : ¬ size > 2 ^ 24 := by omega
  have e2 : ¬ size = 0 := by omega
  have hf := foldl_set us ((Array.range size).map (fun i => z.cells[i % z.cells.size]!)).toList 0 [] rfl (by simp; omega)
  have hd : (((Array.range size).map (fun i => z.cells[i % z.cells.size]!)).toList.drop us.length) = [] := List.drop_eq_nil_of_le (by simp; omega)
  rw [hd] at hf
  simp only [List.nil_append, List.append_nil, Array.toArray_toList] at hf
  have hc : us.length ≤ size := by omega
  have hcu : (Value.agg us.toArray).cells = us.toArray := rfl
  simp only [Nat.zero_add] at hf
  simp [Instr.buildSlice, run_underlying ht, sizeOf, typeInfo, hi, hsize, e1, e2, zeroValue, hz, Instr.fill, hcu, hl, newRow, newObj]
  rw [hf]
  rfl
end
end Go.Proofs.Ytiljjgohmjimdaa

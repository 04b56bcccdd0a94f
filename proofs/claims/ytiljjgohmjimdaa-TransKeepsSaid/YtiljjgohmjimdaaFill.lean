/-
  Values laid into zeros; slices of some great elements. Nothing here speaks of one program.
-/
import Derived.Test.YtiljjgohmjimdaaBig
namespace Go.Proofs.Ytiljjgohmjimdaa
open Go.RowKit
set_option linter.unusedVariables false

theorem fill_agg (pl : Nat → Option (Nat × Nat)) (pre old post us : List Value) (i off : Nat) (more : List (Nat × Value)) (hpl : pl i = some (off, us.length)) (hoff : pre.length = off) (hl : us.length = old.length) :
    Instr.fill pl (pre ++ (old ++ post)).toArray ((i, .agg us.toArray) :: more) = Instr.fill pl (pre ++ (us ++ post)).toArray more := by
  have e : (Value.agg us.toArray).cells = us.toArray := rfl
  have hf := foldl_set_off off us (old ++ post) 0 pre (by omega) (by simp; omega)
  rw [List.drop_left' hl.symm, List.append_assoc] at hf
  conv => lhs; unfold Instr.fill
  simp only [hpl, e]
  rw [if_neg (by simp; omega)]
  congr 1
  rw [← Array.foldl_toList, Array.toList_zipIdx]
  exact hf
theorem fill_row (sz : Nat) : ∀ (L : List (List Value)) (k : Nat) (pre post : List Value), (∀ us ∈ L, us.length = sz) → pre.length = k * sz → post.length = L.length * sz →
    Instr.fill (fun i => some (i * sz, sz)) (pre ++ post).toArray ((L.zipIdx k).map fun x => (x.2, Value.agg x.1.toArray)) = some (pre ++ L.flatten).toArray
  | [], k, pre, post, _, _, hp => by
    obtain rfl : post = [] := List.eq_nil_of_length_eq_zero (by simpa using hp)
    simp [Instr.fill]
  | us :: L, k, pre, post, hL, hpre, hp => by
    have hu := hL us List.mem_cons_self
    have hsp : post = post.take sz ++ post.drop sz := (List.take_append_drop sz post).symm
    have hlen : sz ≤ post.length := by rw [hp, List.length_cons, Nat.add_mul]; omega
    rw [List.zipIdx_cons, List.map_cons, hsp, fill_agg _ pre (post.take sz) (post.drop sz) us k (k * sz) _ (by rw [hu]) hpre (by rw [hu, List.length_take]; omega), ← List.append_assoc]
    rw [fill_row sz L (k + 1) (pre ++ us) (post.drop sz) (fun x hx => hL x (List.mem_cons_of_mem _ hx)) (by rw [List.length_append, hpre, hu, Nat.add_mul]; omega) (by rw [List.length_drop, hp, List.length_cons, Nat.add_mul]; omega)]
    simp
theorem run_buildSlice_row {P : Program} (w : World) {t e : TypeId} {z : Value} {size bytes : Nat} (he : Elem P t e z size bytes) (hs : size ≤ 1000) (L : List (List Value)) (hL : ∀ us ∈ L, us.length = size) (hn : L.length ≤ 1000) (h0 : 0 < L.length) :
    (Instr.buildSlice t L.length ((L.zipIdx.map fun x => (x.2, Value.agg x.1.toArray)).toArray)).run P w = .ok (.slice (some ⟨w.heap.size, 0, none⟩) L.length L.length) (w.alloc (.cells L.flatten.toArray e)) := by
  obtain ⟨ht, i, hi, hz, hsize, hby, hzs, hsz⟩ := he
  have hm : L.length * size ≤ 1000000 := Nat.mul_le_mul hn hs
  have e1 : ¬ L.length * size > 2 ^ 24 := by omega
  have e2 : ¬ L.length * size = 0 := by
    have := Nat.mul_pos h0 hsz
    omega
  have hf := fill_row size L 0 [] (((Array.range (L.length * size)).map (fun i => z.cells[i % z.cells.size]!)).toList) hL (by simp) (by simp)
  simp only [List.nil_append, Array.toArray_toList] at hf
  have e2' : ¬ (L = [] ∨ size = 0) := by rintro (h | h); rw [h] at h0; simp at h0; omega
  simp [Instr.buildSlice, run_underlying ht, sizeOf, typeInfo, hi, hsize, e1, e2, zeroValue, hz, newRow, newObj]
  rw [hf]
  rfl
/-- four great elements in a block of their own -/
theorem wpList_slice_four {P : Program} (w : World) {ops : Array Oper} {rest : List Oper} {o : Oper} {a : Act} {Q : Exit → Act → World → Prop} (hgd : o.guard = none) (x0 x1 x2 x3 : Operand) (t : TypeId) (ho : o.op = .buildSlice t 4 #[(0, x0), (1, x1), (2, x2), (3, x3)])
    (e : TypeId) (z : Value) (size bytes : Nat) (he : Elem P t e z size bytes) (hs : size ≤ 1000) (a0 a1 a2 a3 : List Value) (hl : ∀ us ∈ [a0, a1, a2, a3], us.length = size) (h0 : a.eval x0 = .agg a0.toArray) (h1 : a.eval x1 = .agg a1.toArray) (h2 : a.eval x2 = .agg a2.toArray) (h3 : a.eval x3 = .agg a3.toArray)
    (h : wpList P ops Q rest (a.put o.dst (.slice (some ⟨w.heap.size, 0, none⟩) 4 4)) (w.alloc (.cells (a0 ++ (a1 ++ (a2 ++ a3))).toArray e))) : wpList P ops Q (o :: rest) a w := by
  have hr := run_buildSlice_row (P := P) w he hs [a0, a1, a2, a3] hl (by simp) (by simp)
  have e4 : [a0, a1, a2, a3].flatten = a0 ++ (a1 ++ (a2 ++ a3)) := by simp
  rw [e4] at hr
  have hr : (Instr.buildSlice t 4 #[(0, Value.agg a0.toArray), (1, Value.agg a1.toArray), (2, Value.agg a2.toArray), (3, Value.agg a3.toArray)]).run P w = .ok (.slice (some ⟨w.heap.size, 0, none⟩) 4 4) (w.alloc (.cells (a0 ++ (a1 ++ (a2 ++ a3))).toArray e)) := hr
  refine wpList_plain hgd fun K hK => ?_
  unfold Oper.wp
  simp only [execOp, ho, Array.map]
  simp [h0, h1, h2, h3, hr, Result.andThen]
  exact hK _ _ h
end Go.Proofs.Ytiljjgohmjimdaa

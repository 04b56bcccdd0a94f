/-
  What blocks were, in memory: its cells, lists of them, compared; what is kept of a change.
-/
import Derived.Test.YtjjomfpkdbfhdaaSnM
import Derived.Test.YtjjomfpkdbfhdaaStoV
import Derived.Test.YtjjomfpkdbfhdaaFill
import Derived.Test.YtjjomfpkdbfhdaaBytes
import Derived.Test.YtjjomfpkdbfhdaaIsa
import Derived.Test.YtjjomfpkdbfhdaaOpen
import Derived.Test.YtjjomfpkdbfhdaaLf0
import Derived.Laws.StructEq
namespace Go.Proofs.Ytjjomfpkdbfhdaa
open Go.RowKit Word Snap
set_option linter.unusedVariables false

abbrev Snap.d32 : List Int := List.replicate 32 0
abbrev Snap.ol0 : Ol := ⟨0, false, d32⟩
/-- as it must be -/
def Snap.OIn (o : Ol) : Prop := o.data.length = 32 ∧ (Lit.int .i64 o.b).wf = true
theorem ol0_in : OIn ol0 := ⟨by simp, by decide⟩
def ocs (o : Ol) : List Value := .int .i64 o.b :: .bool o.has :: bs o.data
theorem ocs_len {o : Ol} (h : OIn o) : (ocs o).length = 34 := by simp [ocs, bs_length, h.1]
theorem ocs_one (o : Ol) : ∀ u ∈ ocs o, u.oneCell' = true := by
  intro u hu
  rcases List.mem_cons.1 hu with rfl | hu
  · rfl
  · rcases List.mem_cons.1 hu with rfl | hu
    · rfl
    · exact bs_one _ u hu
theorem ocs_inj {a b : Ol} (h : ocs a = ocs b) : a = b := by
  unfold ocs at h
  injection h with h0 h
  injection h with h1 h
  have h2 := bs_inj h
  injection h0 with _ h0
  injection h1 with h1
  cases a; cases b; simp_all
def ols (l : List Ol) : List Value := l.flatMap ocs
theorem ols_cons (x : Ol) (l : List Ol) : ols (x :: l) = ocs x ++ ols l := rfl
theorem ols_append (l m : List Ol) : ols (l ++ m) = ols l ++ ols m := by simp [ols]
theorem ols_single (o : Ol) : ols [o] = ocs o := by simp [ols]
theorem ols_length : ∀ {l : List Ol}, (∀ o ∈ l, OIn o) → (ols l).length = l.length * 34
  | [], _ => rfl
  | o :: l, h => by
    have h1 := ocs_len (h o List.mem_cons_self)
    have h2 := ols_length fun g hg => h g (List.mem_cons_of_mem _ hg)
    rw [ols_cons, List.length_append, h1, h2, List.length_cons]
    omega
theorem ols_one (l : List Ol) : ∀ u ∈ ols l, u.oneCell' = true := by
  intro u hu
  obtain ⟨f, _, h⟩ := List.mem_flatMap.1 hu
  exact ocs_one f u h
theorem ols_at : ∀ {l : List Ol} {k j : Nat} {o : Ol} {v : Value}, (∀ o ∈ l, OIn o) → l[k]? = some o → (ocs o)[j]? = some v → (ols l)[k * 34 + j]? = some v
  | [], k, j, o, v, _, h, _ => by simp at h
  | g :: l, 0, j, o, v, hin, h, hv => by
    obtain rfl : g = o := by simpa using h
    have hj : j < (ocs g).length := (List.getElem?_eq_some_iff.1 hv).1
    rw [ols_cons, Nat.zero_mul, Nat.zero_add, List.getElem?_append_left hj]
    exact hv
  | g :: l, k + 1, j, o, v, hin, h, hv => by
    have h1 := ocs_len (hin g List.mem_cons_self)
    have := ols_at (l := l) (k := k) (j := j) (fun g hg => hin g (List.mem_cons_of_mem _ hg)) (by simpa using h) hv
    rw [ols_cons, List.getElem?_append_right (by omega), h1, show (k + 1) * 34 + j - 34 = k * 34 + j by omega]
    exact this
theorem ols_front {l : List Ol} (k : Nat) {w : World} {B : Nat} {A : Option Addr} (h : Rd w B A (ols l)) : Rd w B A (ols (l.take k)) := by
  have e : ols l = ols (l.take k) ++ ols (l.drop k) := by rw [← ols_append, List.take_append_drop]
  have h2 : ols (l.take k) = (ols l).take (ols (l.take k)).length := by rw [e, List.take_left]
  rw [h2]
  exact h.front
section
variable {w : World} {B k m : Nat} {A : Option Addr} {ad : Addr} {l : List Ol} {o : Ol}
theorem ol_cell (h : Rd w B (some ad) (ols l)) (hin : ∀ o ∈ l, OIn o) (hk : l[k]? = some o) : ∀ j v, (ocs o)[j]? = some v → w.cell? ((ad.add (k * 34)).add j) = some v := fun j v hv => by
  rw [addr_add_add]
  obtain ⟨ad2, e, _, hc⟩ := h.at (ols_at hin hk hv)
  obtain rfl : ad = ad2 := by injection e
  exact hc
theorem ol_some (h : Rd w B A (ols l)) (hin : ∀ o ∈ l, OIn o) (hk : l[k]? = some o) : ∃ ad, A = some ad ∧ ad.block < B := by
  obtain ⟨ad, e, hb, _⟩ := h.at (ols_at hin hk (j := 0) (v := .int .i64 o.b) rfl)
  exact ⟨ad, e, hb⟩
theorem ol_load (hr : Rd w B A (ols l)) (hin : ∀ o ∈ l, OIn o) (hk : l[k]? = some o) (hm : m = 34) :
    ∃ ad, A = some ad ∧ (loadCellsFrom (ad.add (k * m)) 0 m #[]).run Try.prog w = .ok (ocs o).toArray w ∧ ad.block < B := by
  obtain ⟨ad, rfl, hb⟩ := ol_some hr hin hk
  have hc := ol_cell hr hin hk
  subst hm
  exact ⟨ad, rfl, big_load Try.prog _ (ocs o) 34 (ocs_len (hin o (List.mem_of_getElem? hk))) w hc, hb⟩
theorem ol_b (hr : Rd w B A (ols l)) (hin : ∀ o ∈ l, OIn o) (hk : l[k]? = some o) (hm : m = 34) : ∃ ad, A = some ad ∧ ad.block < B ∧ w.cell? (ad.add (k * m)) = some (.int .i64 o.b) := by
  subst hm
  obtain ⟨ad, rfl, hb, hc⟩ := hr.at (ols_at hin hk (j := 0) (v := .int .i64 o.b) rfl)
  exact ⟨ad, rfl, hb, hc⟩
end
section
variable {w : World} {b m : Nat} {T : TypeId} {o : Ol}
theorem Box.ol (h : Box w b T (ocs o)) : w.cell? ⟨b, 0, none⟩ = some (.int .i64 o.b) ∧ w.cell? ⟨b, 1, none⟩ = some (.bool o.has) := ⟨h.cell 0, h.cell 1⟩
theorem Box.olAll (h : Box w b T (ocs o)) (hi : OIn o) (hm : m = 34) : (loadCellsFrom ⟨b, 0, none⟩ 0 m #[]).run Try.prog w = .ok (ocs o).toArray w :=
  big_load0 Try.prog b 0 (ocs o) m (by rw [ocs_len hi, hm]) w h.range0
end
theorem zero_old (w : World) : (zeroValue 38).run Try.prog w = .ok (.agg (ocs ol0).toArray) w :=
  (zero_of_info (P := Try.prog) (t := 38) (v := .agg (ocs ol0).toArray) (n := 34) (by kernel_rfl)).1 w
theorem ol_size {o : Ol} (h : OIn o) : (Try.prog.info? 38).map (·.size) = some (ocs o).length := by rw [ocs_len h]; kernel_rfl
theorem elemO : Elem Try.prog 31 38 (.agg (ocs ol0).toArray) 34 48 := Elem.of Try.underlying31 (by kernel_rfl) rfl (by decide)
theorem guard_old : Try.prog.eqGuardType Try.prog.depth 38 = false := by kernel_rfl
section
variable {w : World} {ops : Array Oper} {rest : List Oper} {o : Oper} {a : Act} {Q : Exit → Act → World → Prop}
theorem wpList_ol_alloc (hgd : o.guard = none) (ho : o.op = .alloc 38)
    (h : ∀ w', Box w' w.heap.size 38 (ocs ol0) → Below w.heap.size w w' → w'.heap.size = w.heap.size + 1 → wpList Try.prog ops Q rest (a.put o.dst (.pointer (some ⟨w.heap.size, 0, none⟩))) w') : wpList Try.prog ops Q (o :: rest) a w :=
  wpList_alloc_box w hgd _ ho (ocs ol0) zero_old h
theorem wpList_ol_store (hgd : o.guard = none) (x y : Operand) (ho : o.op = .store 38 x y) (g : Nat) (r old : Ol) (hr : OIn r) (hold : OIn old) (hx : a.eval x = .pointer (some ⟨g, 0, none⟩)) (hy : a.eval y = .agg (ocs r).toArray) (hb : Box w g 38 (ocs old))
    (h : ∀ w', Box w' g 38 (ocs r) → w.grownBy w' (some g) → w'.heap.size = w.heap.size → wpList Try.prog ops Q rest (a.put o.dst undef) w') : wpList Try.prog ops Q (o :: rest) a w :=
  wpList_store_box w hgd _ x y ho g (ocs r) (ocs old) (ol_size hr) (by rw [ocs_len hr, ocs_len hold]) (ocs_one r) hx hy hb
    (h _ (setRow_heap w g _ _ _ _ hb) ⟨rfl, rfl, rfl, by simp [World.setRow], fun k _ hk => setRow_other w g k _ (by intro e; exact hk (by rw [e]))⟩ (by simp [World.setRow]))
theorem wpList_ol_box (hgd : o.guard = none) (x : Operand) (ho : o.op = .box 38 x) (r : Ol) (hx : a.eval x = .agg (ocs r).toArray)
    (h : ∀ w', Box w' w.heap.size 38 (ocs r) → Below w.heap.size w w' → w'.heap.size = w.heap.size + 1 → wpList Try.prog ops Q rest (a.put o.dst (.pointer (some ⟨w.heap.size, 0, none⟩))) w') : wpList Try.prog ops Q (o :: rest) a w :=
  wpList_box_box w hgd _ x ho (ocs r) hx h
end

/-! two of them are compared -/
theorem osize_u8 (w : World) : (sizeOf 5).run Try.prog w = .ok 1 w := by go_simp
theorem part_odata (a : Ol) (ha : OIn a) (w : World) : (part 36 (ocs a).toArray 2).run Try.prog w = .ok (.agg (bs a.data).toArray) w := by
  obtain ⟨m, hm, hsz⟩ := big_size (P := Try.prog) (t := 36) (s := 32) (by kernel_rfl)
  have e : List.take m (List.drop 2 (ocs a)) = bs a.data := by
    show List.take m (bs a.data) = bs a.data
    exact List.take_of_length_le (by rw [bs_length, ha.1, hm]; decide)
  simp [part, isAgg, run_underlying Try.underlying36, hsz, e]
def olEq (a b : Ol) : Bool := a.b == b.b && (a.has == b.has && a.data == b.data)
theorem olEq_iff (a b : Ol) : olEq a b = true ↔ a = b := by
  unfold olEq
  cases a; cases b; simp
theorem equal_old (w : World) (a b : Ol) (ha : OIn a) (hb : OIn b) : (Op.equalIn 10000 38 (.agg (ocs a).toArray) (.agg (ocs b).toArray)).run Try.prog w = .ok (olEq a b) w := by
  have hD : ∀ w', (Op.equalIn 9999 36 (.agg (bs a.data).toArray) (.agg (bs b.data).toArray)).run Try.prog w' = .ok (a.data == b.data) w' := fun w' => big_equal (P := Try.prog) w' 9997 36 _ 32 .u8 Try.underlying36 Try.underlying5 osize_u8 a.data b.data ha.1 hb.1
  have pa := fun w' => part_odata a ha w'
  have pb := fun w' => part_odata b hb w'
  have hI : ∀ (r : Ol) (w' : World), (part 3 (ocs r).toArray 0).run Try.prog w' = .ok (.int .i64 r.b) w' := fun r w' => by
    simp [part, isAgg, run_underlying Try.underlying3, ocs]
  have hH : ∀ (r : Ol) (w' : World), (part 4 (ocs r).toArray 1).run Try.prog w' = .ok (.bool r.has) w' := fun r w' => by
    simp [part, isAgg, run_underlying Try.underlying4, ocs]
  have a0 := fun w' => hI a w'
  have b0 := fun w' => hI b w'
  have a1 := fun w' => hH a w'
  have b1 := fun w' => hH b w'
  rw [run_equalIn_agg _ _ _ _ _ (by kernel_rfl) (by kernel_rfl)]
  have hi := fun (x y : Int) (w' : World) => run_equalIn_int (P := Try.prog) w' 9998 3 .i64 .i64 x y Try.underlying3
  have hh := fun (x y : Bool) (w' : World) => run_equalIn_bool (P := Try.prog) w' 9998 4 x y Try.underlying4
  clear hI hH
  unfold olEq
  generalize ocs a = ca at *
  generalize ocs b = cb at *
  simp only [Op.eqFields, Program.fieldsOf, Try.underlying38]
  simp [a0, b0, a1, b1, pa, pb, hD, hi, hh]
  by_cases h0 : a.b = b.b <;> by_cases h1 : a.has = b.has <;> by_cases h2 : a.data = b.data <;> simp [h0, h1, h2]
theorem eql_old (w : World) (a b : Ol) (ha : OIn a) (hb : OIn b) : (binOp .eql 38 (.agg (ocs a).toArray) (.agg (ocs b).toArray)).run Try.prog w = .ok (.bool (olEq a b)) w := by
  rw [run_eql_struct, equal_old w a b ha hb]
  rfl
theorem neq_old (w : World) (a b : Ol) (ha : OIn a) (hb : OIn b) : (binOp .neq 38 (.agg (ocs a).toArray) (.agg (ocs b).toArray)).run Try.prog w = .ok (.bool (!olEq a b)) w := by
  rw [run_neq_struct, equal_old w a b ha hb]
  rfl

/-! what is kept of a change -/
def wcs (x : Ol × Int) : List Value := ocs x.1 ++ [.int .i64 x.2]
abbrev wv (x : Ol × Int) : Value := .agg (wcs x).toArray
abbrev Snap.w0 : Ol × Int := (ol0, 0)
theorem wcs_len {x : Ol × Int} (h : OIn x.1) : (wcs x).length = 35 := by simp [wcs, ocs_len h]
theorem wcs_one (x : Ol × Int) : ∀ u ∈ wcs x, u.oneCell' = true := by
  intro u hu
  rcases List.mem_append.1 hu with hu | hu
  · exact ocs_one _ u hu
  · obtain rfl := List.mem_singleton.1 hu
    rfl
theorem zero_was (w : World) : (zeroValue 63).run Try.prog w = .ok (wv w0) w :=
  (zero_of_info (P := Try.prog) (t := 63) (v := wv w0) (n := 35) (by kernel_rfl)).1 w
theorem was_size {x : Ol × Int} (h : OIn x.1) : (Try.prog.info? 63).map (·.size) = some (wcs x).length := by rw [wcs_len h]; kernel_rfl
theorem was_places (w : World) : (Array.mapM (fun f : Field => (do pure (f.offset, ← sizeOf f.type) : Sem (Nat × Nat))) (Try.prog.fieldsOf 63)).run Try.prog w = .ok #[(0, 34), (34, 1)] w := by
  have h3 : ∀ w : World, (sizeOf 3).run Try.prog w = .ok 1 w := by intro w; go_simp
  have h23 : ∀ w : World, (sizeOf 38).run Try.prog w = .ok 34 w := by intro w; go_simp
  simp only [Program.fieldsOf, Try.underlying63]
  simp only [List.mapM_toArray, List.mapM_cons, List.mapM_nil, Sem.run_bind, Sem.run_pure, h3, h23, Result.andThen, Sem.run_map]
theorem run_build_was (w : World) (x : Ol × Int) (h : OIn x.1) :
    (Instr.build 63 #[(0, .agg (ocs x.1).toArray), (1, .int .i64 x.2)]).run Try.prog w = .ok (wv x) w := by
  have hp := was_places w
  simp only [Program.fieldsOf, Try.underlying63] at hp
  unfold Instr.build
  simp only [Sem.run_bind, zero_was w, Result.andThen, run_underlying Try.underlying63, hp]
  have e : Instr.fill (fun x => #[((0, 34) : Nat × Nat), (34, 1)][x]?) (Value.agg (wcs w0).toArray).cells [(0, .agg (ocs x.1).toArray), (1, .int .i64 x.2)] = some (wcs x).toArray := by
    refine (fill_agg _ [] (ocs ol0) [.int .i64 0] (ocs x.1) 0 0 _ (by rw [ocs_len h]; rfl) rfl (by rw [ocs_len h, ocs_len ol0_in])).trans ?_
    exact (fill_int _ (ocs x.1) [] _ _ _ 1 34 _ rfl (ocs_len h)).trans rfl
  rw [e]
  rfl
section
variable {w : World} {ops : Array Oper} {rest : List Oper} {o : Oper} {a : Act} {Q : Exit → Act → World → Prop}
theorem wpList_was_alloc (hgd : o.guard = none) (ho : o.op = .alloc 63)
    (h : ∀ w', Box w' w.heap.size 63 (wcs w0) → Below w.heap.size w w' → w'.heap.size = w.heap.size + 1 → wpList Try.prog ops Q rest (a.put o.dst (.pointer (some ⟨w.heap.size, 0, none⟩))) w') : wpList Try.prog ops Q (o :: rest) a w :=
  wpList_alloc_box w hgd _ ho (wcs w0) zero_was h
theorem wpList_was_store (hgd : o.guard = none) (x y : Operand) (ho : o.op = .store 63 x y) (g : Nat) (r old : Ol × Int) (hr : OIn r.1) (hold : OIn old.1) (hx : a.eval x = .pointer (some ⟨g, 0, none⟩)) (hy : a.eval y = wv r) (hb : Box w g 63 (wcs old))
    (h : ∀ w', Box w' g 63 (wcs r) → w.grownBy w' (some g) → w'.heap.size = w.heap.size → wpList Try.prog ops Q rest (a.put o.dst undef) w') : wpList Try.prog ops Q (o :: rest) a w :=
  wpList_store_box w hgd _ x y ho g (wcs r) (wcs old) (was_size hr) (by rw [wcs_len hr, wcs_len hold]) (wcs_one r) hx hy hb
    (h _ (setRow_heap w g _ _ _ _ hb) ⟨rfl, rfl, rfl, by simp [World.setRow], fun k _ hk => setRow_other w g k _ (by intro e; exact hk (by rw [e]))⟩ (by simp [World.setRow]))
end
theorem wpList_was_build {w : World} {ops : Array Oper} {rest : List Oper} {o : Oper} {a : Act} {Q : Exit → Act → World → Prop} (hgd : o.guard = none) (x0 x1 : Operand) (ho : o.op = .build 63 #[(0, x0), (1, x1)]) (y : Ol × Int) (hr : OIn y.1) (h0 : a.eval x0 = .agg (ocs y.1).toArray) (h1 : a.eval x1 = .int .i64 y.2)
    (h : wpList Try.prog ops Q rest (a.put o.dst (wv y)) w) : wpList Try.prog ops Q (o :: rest) a w := by
  refine wpList_plain hgd fun K hK => ?_
  unfold Oper.wp
  simp [execOp, ho, h0, h1, run_build_was w y hr, Result.andThen]
  exact hK _ _ h
section
variable {w : World} {b m : Nat} {T : TypeId} {x : Ol × Int}
theorem Box.was (h : Box w b T (wcs x)) (hi : OIn x.1) : w.cell? ⟨b, 34, none⟩ = some (.int .i64 x.2) := by
  rw [h.cell 34, wcs, List.getElem?_append_right (by rw [ocs_len hi]; exact Nat.le_refl _), ocs_len hi]
  rfl
theorem Box.wasAll (h : Box w b T (wcs x)) (hi : OIn x.1) (hm : m = 35) : (loadCellsFrom ⟨b, 0, none⟩ 0 m #[]).run Try.prog w = .ok (wcs x).toArray w :=
  big_load0 Try.prog b 0 (wcs x) m (by rw [wcs_len hi, hm]) w h.range0
theorem Box.wasOld (h : Box w b T (wcs x)) (hi : OIn x.1) (hm : m = 34) : (loadCellsFrom ⟨b, 0, none⟩ 0 m #[]).run Try.prog w = .ok (ocs x.1).toArray w :=
  big_load0 Try.prog b 0 (ocs x.1) m (by rw [ocs_len hi, hm]) w (h.range 0 _ fun j v hj => by
    rw [Nat.zero_add, wcs, List.getElem?_append_left (List.getElem?_eq_some_iff.1 hj).1]
    exact hj)
end
end Go.Proofs.Ytjjomfpkdbfhdaa

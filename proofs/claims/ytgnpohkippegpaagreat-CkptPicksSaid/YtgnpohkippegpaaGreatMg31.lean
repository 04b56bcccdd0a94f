/-
  Mid TbC TbD
-/
import Derived.Test.YtgnpohkippegpaaGreatMg05
import Derived.Laws.CopyRow
import Derived.Test.YtgnpohkippegpaaGreatMg30
import Derived.StillTailTactics
/-
  A value of many cells is laid into the midst of a block known whole. Nothing here speaks of one program.
-/
namespace Go.Proofs.YtgnpohkippegpaaGreat
open Go.RowKit
set_option linter.unusedVariables false

/-- a row with others laid over it from o on -/
def lay {α : Type} (cs : List α) (o : Nat) (vs : List α) : List α := cs.take o ++ vs ++ cs.drop (o + vs.length)
section
variable {α : Type} {cs vs : List α} {o : Nat}
theorem lay_length (h : o + vs.length ≤ cs.length) : (lay cs o vs).length = cs.length := by simp [lay]; omega
theorem lay_map {β : Type} (f : α → β) : lay (cs.map f) o (vs.map f) = (lay cs o vs).map f := by simp [lay]
theorem lay_low {k : Nat} (h : o + vs.length ≤ cs.length) (hk : k < o) : (lay cs o vs)[k]? = cs[k]? := by
  unfold lay
  rw [List.append_assoc, List.getElem?_append_left (by simp; omega), List.getElem?_take, if_pos hk]
theorem lay_in {k : Nat} (h : o + vs.length ≤ cs.length) (hk : k < vs.length) : (lay cs o vs)[o + k]? = vs[k]? := by
  unfold lay
  rw [List.append_assoc, List.getElem?_append_right (by simp; omega), List.getElem?_append_left (by simp; omega)]
  congr 1
  simp
  omega
theorem lay_high {k : Nat} (h : o + vs.length ≤ cs.length) (hk : o + vs.length ≤ k) : (lay cs o vs)[k]? = cs[k]? := by
  unfold lay
  rw [List.getElem?_append_right (by simp; omega), List.getElem?_drop]
  congr 1
  simp
  omega
theorem lay_self (h : o + vs.length ≤ cs.length) (hv : (cs.drop o).take vs.length = vs) : lay cs o vs = cs := by
  apply List.ext_getElem?
  intro k
  by_cases h1 : k < o
  · exact lay_low h h1
  · by_cases h2 : o + vs.length ≤ k
    · exact lay_high h h2
    · have e : k = o + (k - o) := by omega
      rw [e, lay_in h (by omega)]
      conv => lhs; rw [← hv]
      rw [List.getElem?_take, if_pos (by omega), List.getElem?_drop]
/-- one element turned in what is laid over -/
theorem lay_set {j : Nat} {x : α} (h : o + vs.length ≤ cs.length) (hv : (cs.drop o).take vs.length = vs) (hj : j < vs.length) : lay cs o (vs.set j x) = cs.set (o + j) x := by
  have hl : (vs.set j x).length = vs.length := by simp
  apply List.ext_getElem?
  intro k
  by_cases h1 : k < o
  · rw [lay_low (by omega) h1, List.getElem?_set_ne (by omega)]
  · by_cases h2 : o + vs.length ≤ k
    · rw [lay_high (by omega) (by omega), List.getElem?_set_ne (by omega)]
    · obtain ⟨i, rfl⟩ : ∃ i, k = o + i := ⟨k - o, by omega⟩
      rw [lay_in (by omega) (by omega)]
      by_cases hji : j = i
      · subst hji
        rw [List.getElem?_set_self hj, List.getElem?_set_self (by omega)]
      · rw [List.getElem?_set_ne hji, List.getElem?_set_ne (by omega)]
        conv => lhs; rw [← hv]
        rw [List.getElem?_take, if_pos (by omega), List.getElem?_drop]
end
section
variable {P : Program} (w : World)
theorem mid_heap {g off : Nat} {T : TypeId} {cs vs : List Value} (hb : Box w g T cs) (h1 : ∀ u ∈ vs, u.oneCell' = true) (hl : off + vs.length ≤ cs.length) :
    (storeCells ⟨g, off, none⟩ vs 0).run P w = .ok () (w.setRow g (lay cs off vs).toArray) := by
  have := run_storeCells_at (P := P) g off T vs 0 cs.toArray w hb (by simpa using hl) h1
  simpa [lay] using this
theorem mid_setRow {g : Nat} {T : TypeId} {cs cs' : List Value} (hb : Box w g T cs) : Box (w.setRow g cs'.toArray) g T cs' ∧ w.grownBy (w.setRow g cs'.toArray) (some g) ∧ (w.setRow g cs'.toArray).heap.size = w.heap.size :=
  ⟨setRow_heap w g _ _ _ _ hb, ⟨rfl, rfl, rfl, by simp [World.setRow], fun k _ hk => setRow_other w g k _ (by intro e; exact hk (by rw [e]))⟩, by simp [World.setRow]⟩
/-- a value of many cells is laid into the midst of a block -/
theorem wpList_store_midbox {ops : Array Oper} {rest : List Oper} {o : Oper} {a : Act} {Q : Exit → Act → World → Prop} (hgd : o.guard = none) (t : TypeId) (x y : Operand) (ho : o.op = .store t x y) (g off : Nat) (T : TypeId) (cs vs : List Value)
    (hsz : (P.info? t).map (·.size) = some vs.length) (hl : off + vs.length ≤ cs.length) (h1 : ∀ u ∈ vs, u.oneCell' = true) (hx : a.eval x = .pointer (some ⟨g, off, none⟩)) (hy : a.eval y = .agg vs.toArray) (hb : Box w g T cs)
    (h : ∀ w', Box w' g T (lay cs off vs) → w.grownBy w' (some g) → w'.heap.size = w.heap.size → wpList P ops Q rest (a.put o.dst undef) w') : wpList P ops Q (o :: rest) a w := by
  refine wpList_plain hgd fun K hK => ?_
  have hm := mid_heap (P := P) w hb h1 hl
  have hr : (storeVar t ⟨g, off, none⟩ (.agg vs.toArray)).run P w = .ok () (w.setRow g (lay cs off vs).toArray) := by
    cases hq : P.info? t with
    | none => simp [hq] at hsz
    | some i =>
      have hs : i.size = vs.length := by simpa [hq] using hsz
      simpa [storeVar, sizeOf, typeInfo, hq, Value.cells, hs] using hm
  unfold Oper.wp execOp
  simp only [ho, hx, hy, Instr.storeAt, Instr.sureAddr, Sem.run_bind, Sem.run_pure, Result.andThen_ok, hr]
  obtain ⟨r1, r2, r3⟩ := mid_setRow (cs' := lay cs off vs) w hb
  exact hK _ _ (h _ r1 r2 r3)
/-- 'clear' of a slice over a whole block of one-cell elements -/
theorem wpList_clear_box {ops : Array Oper} {rest : List Oper} {o : Oper} {a : Act} {Q : Exit → Act → World → Prop} (hgd : o.guard = none) (x : Operand) (t e : TypeId) (ho : o.op = .call { callee := .builtin .clear, args := #[x], argTypes := #[t] })
    (ht : P.underlying t = some (.slice e)) (z : Value) (hz : ∀ w, (zeroValue e).run P w = .ok z w) (hz1 : z.cells = #[z]) (hz2 : z.oneCell' = true) (g n : Nat) (T : TypeId) (cs : List Value) (hx : a.eval x = .slice (some ⟨g, 0, none⟩) n n) (hl : cs.length = n) (hb : Box w g T cs)
    (h : ∀ w', Box w' g T (List.replicate n z) → w.grownBy w' (some g) → w'.heap.size = w.heap.size → wpList P ops Q rest (a.put o.dst (.tuple #[])) w') : wpList P ops Q (o :: rest) a w := by
  refine wpList_plain hgd fun K hK => ?_
  have hzc : ∀ m, (Builtin.zeroCells #[z] m).toList = List.replicate m z := by
    intro m
    apply List.ext_getElem?
    intro i
    by_cases hi : i < m
    · simp [Builtin.zeroCells, hi, Nat.mod_one]
    · simp [Builtin.zeroCells, hi]
  by_cases h0 : n = 0
  · subst h0
    obtain rfl : cs = [] := List.eq_nil_of_length_eq_zero hl
    have hr : (Builtin.clear_ #[t] o.type #[.slice (some ⟨g, 0, none⟩) 0 0]).run P w = .ok (.tuple #[]) w := by
      simp [Builtin.clear_, run_underlying ht]
    unfold Oper.wp execOp
    simp only [ho, resolve, invoke, builtin, Sem.run_bind, Sem.run_pure, Result.andThen_ok, List.map_toArray, List.map_cons, List.map_nil, hx, hr]
    exact hK _ _ (h _ hb (World.grownBy.refl w _) rfl)
  · have hm := mid_heap (P := P) w (off := 0) (vs := List.replicate n z) hb (by intro u hu; rw [List.eq_of_mem_replicate hu]; exact hz2) (by simp; omega)
    have hlay : lay cs 0 (List.replicate n z) = List.replicate n z := by
      unfold lay
      rw [List.drop_eq_nil_of_le (by simp; omega)]
      simp
    rw [hlay] at hm
    obtain ⟨n', rfl⟩ : ∃ n', n = n' + 1 := ⟨n - 1, by omega⟩
    have hr : (Builtin.clear_ #[t] o.type #[.slice (some ⟨g, 0, none⟩) (n' + 1) (n' + 1)]).run P w = .ok (.tuple #[]) (w.setRow g (List.replicate (n' + 1) z).toArray) := by
      have e : (Builtin.zeroCells #[z] (n' + 1)).toList = List.replicate (n' + 1) z := hzc _
      simp [Builtin.clear_, hm, run_underlying ht, hz, hz1, e]
    unfold Oper.wp execOp
    simp only [ho, resolve, invoke, builtin, Sem.run_bind, Sem.run_pure, Result.andThen_ok, List.map_toArray, List.map_cons, List.map_nil, hx, hr]
    obtain ⟨r1, r2, r3⟩ := mid_setRow (cs' := List.replicate (n' + 1) z) w hb
    exact hK _ _ (h _ r1 r2 r3)
end
end Go.Proofs.YtgnpohkippegpaaGreat

/-
  Package table: Set, Clean.
-/
namespace Go.Proofs.YtgnpohkippegpaaGreat
open Go.RowKit Leaf Tbl
set_option linter.unusedVariables false

namespace Tbl
def putY (n : Nat) (ys : List Int) (b p : Int) : List Int := if hasB n b = true then ys.set b.toNat p else ys
def putD (n : Nat) (ys : List Int) (ds : List Bool) (b p : Int) : List Bool := if hasB n b = true ∧ getT n ys b ≠ p then ds.set (b.toNat / 10) true else ds
theorem putY_no {n : Nat} {ys : List Int} {b p : Int} (h : hasB n b = false) : putY n ys b p = ys := by unfold putY; rw [h]; rfl
theorem putD_no {n : Nat} {ys : List Int} {ds : List Bool} {b p : Int} (h : hasB n b = false) : putD n ys ds b p = ds := by unfold putD; rw [if_neg]; rw [h]; simp
theorem putY_nat {n k : Nat} {ys : List Int} {p : Int} (h : k < n) : putY n ys k p = ys.set k p := by unfold putY; rw [if_pos (hasB_nat h)]; rfl
theorem putD_same {n k : Nat} {ys : List Int} {ds : List Bool} {p : Int} (h : getT n ys k = p) : putD n ys ds k p = ds := by unfold putD; rw [if_neg (fun q => q.2 h)]
theorem putD_nat {n k : Nat} {ys : List Int} {ds : List Bool} {p : Int} (hk : k < n) (h : getT n ys k ≠ p) : putD n ys ds k p = ds.set (k / 10) true := by unfold putD; rw [if_pos ⟨hasB_nat hk, h⟩]; rfl
/-- the leaf of number q -/
def leafOf (ys : List Int) (q : Nat) : List Int := (ys.drop (q * 10)).take 10
theorem leafOf_length {ys : List Int} {q P : Nat} (h : ys.length = 10 * P) (hq : q < P) : (leafOf ys q).length = 10 := by simp [leafOf]; omega
theorem leafOf_get {ys : List Int} {q j : Nat} (hj : j < 10) : (leafOf ys q).getD j 0 = ys.getD (q * 10 + j) 0 := by
  simp only [leafOf, List.getD_eq_getElem?_getD, List.getElem?_take, List.getElem?_drop, if_pos hj]
theorem leafOf_at {ys : List Int} {q j : Nat} {v : Value} (h : (is (leafOf ys q))[j]? = some v) : (is ys)[q * 10 + j]? = some v := by
  unfold is leafOf at h
  rw [List.getElem?_map, List.getElem?_take] at h
  by_cases hj : j < 10
  · rw [if_pos hj, List.getElem?_drop] at h
    unfold is
    rw [List.getElem?_map]
    exact h
  · rw [if_neg hj] at h
    cases h
theorem leafOf_lay {ys : List Int} {q j P : Nat} {x : Int} (h : ys.length = 10 * P) (hq : q < P) (hj : j < 10) : lay ys (q * 10) ((leafOf ys q).set j x) = ys.set (q * 10 + j) x := by
  have hl := leafOf_length h hq
  rw [lay_set (by omega) (by rw [hl]; rfl) (by omega)]
theorem set_self (l : List Int) (k : Nat) : l.set k (l.getD k 0) = l := by
  by_cases h : k < l.length
  · simp [List.getD_eq_getElem?_getD, h]
  · exact List.set_eq_of_length_le (by omega)
theorem set_ne {l : List Int} {j : Nat} {x : Int} (hj : j < l.length) : (l.set j x == l) = decide (l.getD j 0 = x) := by
  have e : l.getD j 0 = l[j] := by simp [List.getD_eq_getElem?_getD, hj]
  rw [e]
  by_cases h : l[j] = x
  · subst h
    simp
  · rw [decide_eq_false h, beq_eq_false_iff_ne]
    intro h2
    have := congrArg (·[j]?) h2
    simp [hj] at this
    exact h this.symm
end Tbl
theorem size_ten : (Tryz.prog.info? 101).map (·.size) = some 10 := by kernel_rfl
theorem zero_tleaf (w : World) : (zeroValue 101).run Tryz.prog w = .ok (.agg (is z10).toArray) w :=
  (zero_of_info (P := Tryz.prog) (t := 101) (v := .agg (is z10).toArray) (n := 10) (by kernel_rfl)).1 w
theorem tl_equal (w : World) (xs ys : List Int) (hx : xs.length = 10) (hy : ys.length = 10) : (Op.equalIn 10000 101 (.agg (is xs).toArray) (.agg (is ys).toArray)).run Tryz.prog w = .ok (xs == ys) w :=
  big_equal w 9998 _ _ 10 .i64 Tryz.underlying101 Tryz.underlying3 size_int xs ys hx hy
theorem guard_tleaf : Tryz.prog.eqGuardType Tryz.prog.depth 101 = false := by kernel_rfl
theorem tl_size {L : List Int} (h : L.length = 10) : (Tryz.prog.info? 101).map (·.size) = some (is L).length := by rw [is_length, h]; exact size_ten
section
variable {w : World} {ops : Array Oper} {rest : List Oper} {o : Oper} {a : Act} {Q : Exit → Act → World → Prop}
theorem wpList_tl_alloc (hgd : o.guard = none) (ho : o.op = .alloc 101)
    (h : ∀ w', Box w' w.heap.size 101 (is z10) → Below w.heap.size w w' → w'.heap.size = w.heap.size + 1 → wpList Tryz.prog ops Q rest (a.put o.dst (.pointer (some ⟨w.heap.size, 0, none⟩))) w') : wpList Tryz.prog ops Q (o :: rest) a w :=
  wpList_alloc_box w hgd _ ho (is z10) zero_tleaf h
theorem wpList_tl_store (hgd : o.guard = none) (x y : Operand) (ho : o.op = .store 101 x y) (g : Nat) (L old : List Int) (hr : L.length = 10) (hold : old.length = 10) (hx : a.eval x = .pointer (some ⟨g, 0, none⟩)) (hy : a.eval y = .agg (is L).toArray) (hb : Box w g 101 (is old))
    (h : ∀ w', Box w' g 101 (is L) → w.grownBy w' (some g) → w'.heap.size = w.heap.size → wpList Tryz.prog ops Q rest (a.put o.dst undef) w') : wpList Tryz.prog ops Q (o :: rest) a w :=
  wpList_store_box w hgd _ x y ho g (is L) (is old) (tl_size hr) (by rw [is_length, is_length, hr, hold]) (is_one L) hx hy hb
    (h _ (setRow_heap w g _ _ _ _ hb) ⟨rfl, rfl, rfl, by simp [World.setRow], fun k _ hk => setRow_other w g k _ (by intro e; exact hk (by rw [e]))⟩ (by simp [World.setRow]))
theorem wpList_tl_lay (hgd : o.guard = none) (x y : Operand) (ho : o.op = .store 101 x y) (g off : Nat) (L ys : List Int) (hr : L.length = 10) (hl : off + 10 ≤ ys.length) (hx : a.eval x = .pointer (some ⟨g, off, none⟩)) (hy : a.eval y = .agg (is L).toArray) (hb : Box w g 101 (is ys))
    (h : ∀ w', Box w' g 101 (is (lay ys off L)) → w.grownBy w' (some g) → w'.heap.size = w.heap.size → wpList Tryz.prog ops Q rest (a.put o.dst undef) w') : wpList Tryz.prog ops Q (o :: rest) a w :=
  wpList_store_midbox w hgd _ x y ho g off _ (is ys) (is L) (tl_size hr) (by rw [is_length, is_length, hr]; exact hl) (is_one L) hx hy hb
    (by unfold is at h ⊢; rw [lay_map]; exact h)
end
/-- blocks of a table that a call may touch -/
abbrev TbT (g h : Nat) : Nat → Prop := fun x => x = g ∨ x = h
theorem TbIs.drew {w : World} {d g h n : Nat} {ys : List Int} {ds : List Bool} (t : TbIs w d g h n ys ds) : TbIs w.drew d g h n ys ds := ⟨t.tb, t.lv, t.dt, t.hn, t.hy, t.hd⟩
theorem TbIs.setDt {w : World} {d g h n : Nat} {ys : List Int} {ds : List Bool} (t : TbIs w d g h n ys ds) (k : Nat) (b : Bool) : TbIs (w.setCell ⟨h, k, none⟩ (.bool b)) d g h n ys (ds.set k b) := by
  obtain ⟨h1, h2, h3⟩ := t.apart
  refine ⟨t.tb.same (Below.heap_setCell _ _ _ _ ?_), t.lv.same (Below.heap_setCell _ _ _ _ ?_), ?_, t.hn, t.hy, by rw [List.length_set]; exact t.hd⟩
  · exact h2
  · exact h3
  · have := t.dt.set k (.bool b)
    rwa [← List.map_set] at this
theorem TbIs.setLv {w w' : World} {d g h n : Nat} {ys ys' : List Int} {ds : List Bool} (t : TbIs w d g h n ys ds) (hb : Box w' g 101 (is ys')) (hg : w.grownBy w' (some g)) (hl : ys'.length = ys.length) : TbIs w' d g h n ys' ds := by
  obtain ⟨h1, h2, h3⟩ := t.apart
  exact ⟨t.tb.grown hg h1, hb, t.dt.grown hg (Ne.symm h3), t.hn, by rw [hl]; exact t.hy, t.hd⟩
set_option maxRecDepth 100000 in
theorem tset_any {d g h n : Nat} {ys : List Int} {ds : List Bool} (w : World) (b p : Int) (t : TbIs w d g h n ys ds) :
    Calls Tryz.prog 28 #[tp d, .int .i64 b, .int .i64 p] w fun e w' => e = .returned (.int .i64 (getT n ys b)) ∧ TbIs w' d g h n (putY n ys b p) (putD n ys ds b p) ∧ Fr (TbT g h) w w' := by
  have HH := Lib.hid (has_any w b t)
  cases hh : hasB n b
  · have H := Lib.hid (getT_no (ys := ys) hh)
    rw [hh] at HH
    rw [putY_no hh, putD_no hh]
    go_enter Tryz.func28, Tryz.ntmps28
    go_wp2_with fail
    refine HH.out.mono ?_
    rintro e w' ⟨rfl, rfl⟩
    go_wp2
    go_ret
    exact ⟨ret_int H.out, t, Fr.refl _⟩
  · rw [hh] at HH
    obtain ⟨k, rfl, hk⟩ := hasB_iff.1 hh
    obtain ⟨m, hm, hsz⟩ := big_size (P := Tryz.prog) (t := 101) (s := 10) (by kernel_rfl)
    have hm0 : ¬ m = 0 := by omega
    have hq : k / 10 < pages n := by unfold pages; omega
    have hj : k % 10 < 10 := Nat.mod_lt _ (by decide)
    have hkj : k / 10 * 10 + k % 10 = k := by omega
    have hL := leafOf_length t.hy hq
    have HG : Hid (getT n ys k = (leafOf ys (k / 10)).getD (k % 10) 0) := Lib.hid (by rw [leafOf_get hj, hkj]; exact getT_nat hk)
    have HE : Hid ((((leafOf ys (k / 10)).set (k % 10) p) == leafOf ys (k / 10)) = decide (getT n ys k = p)) := Lib.hid (by rw [HG.out]; exact set_ne (by omega))
    have HY : Hid (lay ys (k / 10 * 10) ((leafOf ys (k / 10)).set (k % 10) p) = putY n ys k p) := Lib.hid (by rw [leafOf_lay t.hy hq hj, hkj, putY_nat hk])
    have HYl : Hid ((putY n ys k p).length = ys.length) := Lib.hid (by rw [putY_nat hk]; simp)
    have HD1 : Hid (getT n ys k = p → putD n ys ds k p = ds ∧ putY n ys k p = ys) := Lib.hid (fun h => ⟨putD_same h, by rw [putY_nat hk, ← h, getT_nat hk]; exact set_self _ _⟩)
    have HD2 : Hid (getT n ys k ≠ p → putD n ys ds k p = ds.set (k / 10) true) := Lib.hid (fun h => putD_nat hk h)
    have hRg : w.rangeAt g (k / 10 * m) (is (leafOf ys (k / 10))) := t.lv.range _ _ fun j v hv => by rw [hm]; exact leafOf_at hv
    have hw : wrap64 ((k : Int) / 10) = ((k / 10 : Nat) : Int) := by rw [show ((k : Int) / 10) = ((k / 10 : Nat) : Int) by omega]; exact wrap64_nat (by have := t.hn; omega)
    have HM := Lib.hid hm
    have hcmp := fun w' => tl_equal w' ((leafOf ys (k / 10)).set (k % 10) p) (leafOf ys (k / 10)) (by rw [List.length_set]; exact hL) hL
    have hgd := guard_tleaf
    rw [HE.out] at hcmp
    have HT := Lib.hid t
    have hld := big_load0 Tryz.prog g (k / 10 * m) (is (leafOf ys (k / 10))) m (by rw [is_length, hL, hm]) w hRg
    obtain ⟨c1, c2⟩ := t.rows
    have hpi : ((k / 10 : Nat) : Int) < (pages n : Int) := by omega
    have HLl := Lib.hid hL
    have HK := Lib.hid (And.intro hq (And.intro hj hkj))
    generalize hLf : leafOf ys (k / 10) = L at *
    have HLf := Lib.hid hLf
    clear hm hLf hRg t hL hq hkj HE
    generalize hV : getT n ys (k : Int) = V at *
    have HV := Lib.hid hV
    clear hV hh hk
    by_cases hVp : V = p
    · rw [decide_eq_true hVp] at hcmp
      obtain ⟨e1, e2⟩ := HD1.out hVp
      rw [e1, e2]
      clear e1 e2 HD1 HD2 hVp HY HYl
      go_enter Tryz.func28, Tryz.ntmps28
      go_wp2_with fail
      refine HH.out.mono ?_
      rintro e w' ⟨rfl, rfl⟩
      go_wp2_with (first
        | ((with_reducible refine wpList_tl_alloc (o := ⟨some 9, .alloc _, _, _, _, _⟩) rfl rfl ?_); intro w1 x1 hB1 hs1; have K1 := Lib.hid hB1; clear hB1 hs1)
        | ((with_reducible refine wpList_tl_store (o := ⟨none, .store _ _ _, _, _, _, _⟩) rfl _ _ rfl w.heap.size L z10 HLl.out rfl rfl rfl x1 ?_); intro w2 x2 hg2 hs2; have l2 := big_load0 Tryz.prog w.heap.size 0 (is L) m (by rw [is_length, HLl.out, HM.out]) _ x2.range0; have K2 := Lib.hid (And.intro x2 (below_stored K1.out hg2 K1.out.size (Nat.le_refl _))); clear x1 x2 hg2 hs2 K1)
        | ((with_reducible refine wpList_tl_alloc (o := ⟨some 10, .alloc _, _, _, _, _⟩) rfl rfl ?_); intro w3 x3 hB3 hs3; have K3 := Lib.hid hB3; clear hB3 hs3)
        | ((with_reducible refine wpList_tl_store (o := ⟨none, .store _ _ _, _, _, _, _⟩) rfl _ _ rfl w2.heap.size L z10 HLl.out rfl rfl rfl x3 ?_); intro w4 x4 hg4 hs4; have K4 := Lib.hid (And.intro x4 (below_stored K3.out hg4 K3.out.size (Nat.le_refl _))); clear x3 hg4 hs4 K3 l2; obtain ⟨⟨x9, hB2⟩, x10, hB24⟩ := And.intro K2.out K4.out; have HB := Lib.hid (hB2.trans (hB24.mono hB2.size)); have T4 := Lib.hid (HT.out.on HB.out); have HB10 := Lib.hid hB2.size; have HN9 := Lib.hid (Nat.ne_of_lt x9.lt); have HX9 := Lib.hid (x9.below hB24 x9.lt); have HX10 := Lib.hid x10; have HF5 := Lib.hid ((Fr.of_below (T := TbT g h) (hB2.trans (hB24.mono hB2.size))).andThen (U := fun x => x = w2.heap.size) (Fr.of_setCell w4 ⟨w2.heap.size, k % 10, none⟩ (.int .i64 p) rfl) (fun b hb hu => absurd hB2.size (by omega))); have hdl := Lib.hid (And.intro HT.out.tb.lt (And.intro HT.out.lv.lt HT.out.dt.lt)); clear K2 K4 x9 x10 hB2 hB24; generalize w.heap.size = b9 at *; generalize w2.heap.size = b10 at *; have HN : Hid (d ≠ b10 ∧ g ≠ b10 ∧ h ≠ b10) := Lib.hid (by have := hdl.out; have := HB10.out; omega); have c10 := (HX10.out.cell (k % 10)).trans (is_get (by rw [HLl.out]; exact HK.out.2.1)); have f10 := HX10.out.frozen (k % 10); have HX5 : Hid (Box (w4.setCell ⟨b10, k % 10, none⟩ (.int .i64 p)) b10 101 (is (L.set (k % 10) p))) := Lib.hid (by rw [is_set]; exact HX10.out.set _ _); have HY5 : Hid (Box (w4.setCell ⟨b10, k % 10, none⟩ (.int .i64 p)) b9 101 (is L)) := Lib.hid (HX9.out.same (Below.heap_setCell _ _ _ _ (fun e => HN9.out e))); have l10 := big_load0 Tryz.prog b10 0 (is (L.set (k % 10) p)) m (by rw [is_length, List.length_set, HLl.out, HM.out]) _ HX5.out.range0; have l9 := big_load0 Tryz.prog b9 0 (is L) m (by rw [is_length, HLl.out, HM.out]) _ HY5.out.range0; have c9 := (HY5.out.cell (k % 10)).trans (is_get (by rw [HLl.out]; exact HK.out.2.1)); rw [← HG.out] at c9; have T5 : Hid (TbIs (w4.setCell ⟨b10, k % 10, none⟩ (.int .i64 p)) d g h n ys ds) := Lib.hid ⟨T4.out.tb.same (Below.heap_setCell _ _ _ _ (fun e => HN.out.1 e)), T4.out.lv.same (Below.heap_setCell _ _ _ _ (fun e => HN.out.2.1 e)), T4.out.dt.same (Below.heap_setCell _ _ _ _ (fun e => HN.out.2.2 e)), T4.out.hn, T4.out.hy, T4.out.hd⟩; have c4 := T4.out.rows; obtain ⟨c41, c42⟩ := c4; clear c1 c2 hld)
        | fail)
      go_wp2
      go_ret
      exact ⟨rfl, T5.out, HF5.out⟩
    · rw [decide_eq_false hVp] at hcmp
      have e1 := HD2.out hVp
      rw [e1]
      clear e1 HD1 HD2 hVp
      go_enter Tryz.func28, Tryz.ntmps28
      go_wp2_with fail
      refine HH.out.mono ?_
      rintro e w' ⟨rfl, rfl⟩
      go_wp2_with (first
        | ((with_reducible refine wpList_tl_alloc (o := ⟨some 9, .alloc _, _, _, _, _⟩) rfl rfl ?_); intro w1 x1 hB1 hs1; have K1 := Lib.hid hB1; clear hB1 hs1)
        | ((with_reducible refine wpList_tl_store (o := ⟨none, .store _ _ _, _, _, _, _⟩) rfl _ _ rfl w.heap.size L z10 HLl.out rfl rfl rfl x1 ?_); intro w2 x2 hg2 hs2; have l2 := big_load0 Tryz.prog w.heap.size 0 (is L) m (by rw [is_length, HLl.out, HM.out]) _ x2.range0; have K2 := Lib.hid (And.intro x2 (below_stored K1.out hg2 K1.out.size (Nat.le_refl _))); clear x1 x2 hg2 hs2 K1)
        | ((with_reducible refine wpList_tl_alloc (o := ⟨some 10, .alloc _, _, _, _, _⟩) rfl rfl ?_); intro w3 x3 hB3 hs3; have K3 := Lib.hid hB3; clear hB3 hs3)
        | ((with_reducible refine wpList_tl_store (o := ⟨none, .store _ _ _, _, _, _, _⟩) rfl _ _ rfl w2.heap.size L z10 HLl.out rfl rfl rfl x3 ?_); intro w4 x4 hg4 hs4; have K4 := Lib.hid (And.intro x4 (below_stored K3.out hg4 K3.out.size (Nat.le_refl _))); clear x3 hg4 hs4 K3 l2; obtain ⟨⟨x9, hB2⟩, x10, hB24⟩ := And.intro K2.out K4.out; have HB := Lib.hid (hB2.trans (hB24.mono hB2.size)); have T4 := Lib.hid (HT.out.on HB.out); have HB10 := Lib.hid hB2.size; have HN9 := Lib.hid (Nat.ne_of_lt x9.lt); have HX9 := Lib.hid (x9.below hB24 x9.lt); have HX10 := Lib.hid x10; have HF5 := Lib.hid ((Fr.of_below (T := TbT g h) (hB2.trans (hB24.mono hB2.size))).andThen (U := fun x => x = w2.heap.size) (Fr.of_setCell w4 ⟨w2.heap.size, k % 10, none⟩ (.int .i64 p) rfl) (fun b hb hu => absurd hB2.size (by omega))); have hdl := Lib.hid (And.intro HT.out.tb.lt (And.intro HT.out.lv.lt HT.out.dt.lt)); clear K2 K4 x9 x10 hB2 hB24; generalize w.heap.size = b9 at *; generalize w2.heap.size = b10 at *; have HN : Hid (d ≠ b10 ∧ g ≠ b10 ∧ h ≠ b10) := Lib.hid (by have := hdl.out; have := HB10.out; omega); have c10 := (HX10.out.cell (k % 10)).trans (is_get (by rw [HLl.out]; exact HK.out.2.1)); have f10 := HX10.out.frozen (k % 10); have HX5 : Hid (Box (w4.setCell ⟨b10, k % 10, none⟩ (.int .i64 p)) b10 101 (is (L.set (k % 10) p))) := Lib.hid (by rw [is_set]; exact HX10.out.set _ _); have HY5 : Hid (Box (w4.setCell ⟨b10, k % 10, none⟩ (.int .i64 p)) b9 101 (is L)) := Lib.hid (HX9.out.same (Below.heap_setCell _ _ _ _ (fun e => HN9.out e))); have l10 := big_load0 Tryz.prog b10 0 (is (L.set (k % 10) p)) m (by rw [is_length, List.length_set, HLl.out, HM.out]) _ HX5.out.range0; have l9 := big_load0 Tryz.prog b9 0 (is L) m (by rw [is_length, HLl.out, HM.out]) _ HY5.out.range0; have c9 := (HY5.out.cell (k % 10)).trans (is_get (by rw [HLl.out]; exact HK.out.2.1)); rw [← HG.out] at c9; have T5 : Hid (TbIs (w4.setCell ⟨b10, k % 10, none⟩ (.int .i64 p)) d g h n ys ds) := Lib.hid ⟨T4.out.tb.same (Below.heap_setCell _ _ _ _ (fun e => HN.out.1 e)), T4.out.lv.same (Below.heap_setCell _ _ _ _ (fun e => HN.out.2.1 e)), T4.out.dt.same (Below.heap_setCell _ _ _ _ (fun e => HN.out.2.2 e)), T4.out.hn, T4.out.hy, T4.out.hd⟩; have c4 := T4.out.rows; obtain ⟨c41, c42⟩ := c4; clear c1 c2 hld)
        | fail)
      go_wp2
      have HQ9 : Hid (b9 ≠ g ∧ b9 ≠ h) := Lib.hid (by have := hdl.out; omega)
      clear c10 f10 HX9 HX10 HB HN9 T4 l9 c9 hcmp x4
      generalize w4.setCell ⟨b10, k % 10, none⟩ (.int .i64 p) = w5 at *
      obtain ⟨c1, c2⟩ := T5.out.rows
      have l10 := big_load0 Tryz.prog b10 0 (is (L.set (k % 10) p)) m (by rw [is_length, List.length_set, HLl.out, HM.out]) w5.drew HX5.out.range0
      have LL : (L.set (k % 10) p).length = 10 := by rw [List.length_set]; exact HLl.out
      have YL : k / 10 * m + 10 ≤ ys.length := by rw [T5.out.hy, HM.out]; have := HK.out.1; omega
      have HYm : Hid (lay ys (k / 10 * m) (L.set (k % 10) p) = putY n ys k p) := Lib.hid (by rw [HM.out]; exact HY.out)
      have XL : Box w5.drew g 101 (is ys) := T5.out.lv
      go_still_tail 6, (by kernel_rfl)
      change wpList _ _ _ _ _ w5.drew
      go_wp2_with (first
        | ((with_reducible refine wpList_tl_lay (o := ⟨none, .store _ _ _, _, _, _, _⟩) rfl _ _ rfl g (k / 10 * m) (L.set (k % 10) p) ys LL YL rfl rfl XL ?_); go_loud (rw [HYm.out]; intro w6 x6 hg6 hs6; have T6 := Lib.hid (T5.out.drew.setLv (w := w5.drew) x6 hg6 HYl.out); have F6 := Lib.hid ((HF5.out.drew).trans (Fr.of_grown (T := TbT g h) hg6 (fun k e => by injection e with e; exact .inl e.symm))); have Y6 := Lib.hid (Box.grown (w := w5.drew) HY5.out hg6 HQ9.out.1); clear x6 hg6 hs6 T5 HF5 HY5 HY HYm HYl YL XL c1 c2 l10 c41 c42; obtain ⟨c1, c2⟩ := T6.out.rows; have cf := T6.out.flag HK.out.1; have ff := T6.out.dt.frozen (k / 10); have T7 := Lib.hid (T6.out.setDt (k / 10) true); have F7 := Lib.hid (F6.out.setCell ⟨h, k / 10, none⟩ (.bool true) (.inr rfl)); have c9 := ((Y6.out.same (Below.heap_setCell w6 ⟨h, k / 10, none⟩ (.bool true) _ HQ9.out.2)).cell (k % 10)).trans (is_get (by rw [HLl.out]; exact HK.out.2.1)); rw [← HG.out] at c9))
        | fail)
      go_ret
      exact ⟨rfl, T7.out, F7.out⟩
end Go.Proofs.YtgnpohkippegpaaGreat

/-
  Package table: Clean, Count, Places, Dirty, Leaves.
-/
namespace Go.Proofs.YtgnpohkippegpaaGreat
open Go.RowKit Leaf Tbl
set_option linter.unusedVariables false

theorem Box.rd {w : World} {b B : Nat} {T : TypeId} {cs : List Value} (h : Box w b T cs) (hB : b < B) : Rd w B (some ⟨b, 0, none⟩) cs := fun _ => ⟨_, rfl, hB, fun j u hu => by
  rw [Addr.add_mid, Nat.zero_add]
  exact (h.cell j).trans hu⟩
namespace Tbl
/-- how many of the first k places aren't 0 -/
def cntT (ys : List Int) (k : Nat) : Nat := ((List.range k).filter (fun i => ys.getD i 0 != 0)).length
theorem cntT_le (ys : List Int) (k : Nat) : cntT ys k ≤ k := by
  have := List.length_filter_le (fun i => ys.getD i 0 != 0) (List.range k)
  unfold cntT
  simp at this ⊢
  omega
theorem cntT_yes {ys : List Int} {k : Nat} (h : ys.getD k 0 ≠ 0) : cntT ys (k + 1) = cntT ys k + 1 := by
  unfold cntT
  rw [List.range_succ, List.filter_append, List.length_append]
  have : (ys.getD k 0 != 0) = true := by simpa using h
  simp only [List.filter_cons, this, if_true, List.filter_nil, List.length_cons, List.length_nil]
theorem cntT_no {ys : List Int} {k : Nat} (h : ys.getD k 0 = 0) : cntT ys (k + 1) = cntT ys k := by
  unfold cntT
  rw [List.range_succ, List.filter_append, List.length_append]
  have : (ys.getD k 0 != 0) = false := by rw [h]; rfl
  simp only [List.filter_cons, this, List.filter_nil]
  simp
/-- the numbers of those that are true among the first k -/
def idxs (ds : List Bool) (k : Nat) : List Int := ((List.range k).filter (fun i => ds.getD i false)).map (fun i : Nat => (i : Int))
theorem idxs_zero (ds : List Bool) : idxs ds 0 = [] := rfl
theorem idxs_yes {ds : List Bool} {k : Nat} (h : ds.getD k false = true) : idxs ds (k + 1) = idxs ds k ++ [(k : Int)] := by
  unfold idxs
  rw [List.range_succ, List.filter_append, List.map_append]
  simp only [List.filter_cons, h, if_true, List.filter_nil, List.map_cons, List.map_nil]
theorem idxs_no {ds : List Bool} {k : Nat} (h : ds.getD k false = false) : idxs ds (k + 1) = idxs ds k := by
  unfold idxs
  rw [List.range_succ, List.filter_append, List.map_append]
  simp only [List.filter_cons, h, Bool.false_eq_true, if_false, List.filter_nil, List.map_nil, List.append_nil]
theorem idxs_length (ds : List Bool) (k : Nat) : (idxs ds k).length ≤ k := by
  have := List.length_filter_le (fun i => ds.getD i false) (List.range k)
  unfold idxs
  simp at this ⊢
  omega
/-- the leaves of a table, as those of the checkpoint gen -/
def lfOf (ys : List Int) (gen : Int) (q : Nat) : Lf := ⟨gen, q, leafOf ys q⟩
def lfsOf (ys : List Int) (gen : Int) (P : Nat) : List Lf := (List.range P).map (lfOf ys gen)
end Tbl
def lfls (ls : List Lf) : List Value := ls.flatMap lcs
theorem lfls_cons (l : Lf) (ls : List Lf) : lfls (l :: ls) = lcs l ++ lfls ls := by simp [lfls]
theorem lfls_append (a b : List Lf) : lfls (a ++ b) = lfls a ++ lfls b := by simp [lfls]
theorem lfls_length {ls : List Lf} (h : ∀ l ∈ ls, In l) : (lfls ls).length = ls.length * 12 := by
  induction ls with
  | nil => rfl
  | cons l ls ih =>
    rw [lfls_cons, List.length_append, ih (fun x hx => h x (List.mem_cons_of_mem _ hx)), lcs_length (h l List.mem_cons_self), List.length_cons]
    omega
theorem lfls_one (ls : List Lf) : ∀ u ∈ lfls ls, u.oneCell' = true := by
  intro u hu
  obtain ⟨l, _, h⟩ := List.mem_flatMap.1 hu
  exact lcs_one l u h
theorem lay_mid {α : Type} {A B C vs : List α} {o : Nat} (hA : A.length = o) (hB : B.length = vs.length) : lay (A ++ (B ++ C)) o vs = A ++ (vs ++ C) := by
  subst hA
  unfold lay
  rw [List.take_left, ← hB, List.drop_append, List.drop_eq_nil_of_le (by omega), show A.length + B.length - A.length = B.length by omega, List.drop_left, List.nil_append, List.append_assoc]
/-- the first k leaves laid, the others zero -/
def lfTo (ls : List Lf) (k : Nat) : List Lf := ls.take k ++ List.replicate (ls.length - k) lf0
theorem lfTo_zero (ls : List Lf) : lfTo ls 0 = List.replicate ls.length lf0 := by simp [lfTo]
theorem lfTo_all (ls : List Lf) : lfTo ls ls.length = ls := by simp [lfTo]
theorem lfTo_in {ls : List Lf} (h : ∀ l ∈ ls, In l) (k : Nat) : ∀ l ∈ lfTo ls k, In l := by
  intro l hl
  rcases List.mem_append.1 hl with h1 | h1
  · exact h l (List.mem_of_mem_take h1)
  · rw [List.eq_of_mem_replicate h1]; exact lf0_in
theorem lfTo_length {ls : List Lf} {k : Nat} (hk : k ≤ ls.length) : (lfTo ls k).length = ls.length := by simp [lfTo]; omega
theorem lfTo_lay {ls : List Lf} (h : ∀ l ∈ ls, In l) {k : Nat} {l : Lf} (hl : ls[k]? = some l) : lay (lfls (lfTo ls k)) (k * 12) (lcs l) = lfls (lfTo ls (k + 1)) := by
  obtain ⟨hk, rfl⟩ := List.getElem?_eq_some_iff.1 hl
  have e1 : ls.length - k = (ls.length - (k + 1)) + 1 := by omega
  unfold lfTo
  rw [e1, List.replicate_succ, lfls_append, lfls_cons, lay_mid ?_ ?_, List.take_succ_eq_append_getElem hk, lfls_append, lfls_append, lfls_cons]
  · simp [lfls]
  · rw [lfls_length (fun x hx => h x (List.mem_of_mem_take hx)), List.length_take]
    congr 1
    omega
  · rw [lcs_length lf0_in, lcs_length (h _ (List.getElem_mem hk))]
theorem lfsOf_in {ys : List Int} {gen : Int} {n : Nat} (hy : ys.length = 10 * pages n) : ∀ l ∈ lfsOf ys gen (pages n), In l := by
  intro l hl
  obtain ⟨q, hq, rfl⟩ := List.mem_map.1 hl
  exact leafOf_length hy (by simpa using hq)
theorem lfsOf_length (ys : List Int) (gen : Int) (P : Nat) : (lfsOf ys gen P).length = P := by simp [lfsOf]
theorem lfsOf_get {ys : List Int} {gen : Int} {P q : Nat} (h : q < P) : (lfsOf ys gen P)[q]? = some (lfOf ys gen q) := by simp [lfsOf, h]

theorem make_ints (w : World) (m : Nat) (hm : m ≤ 100000) :
    (Instr.makeSlice 50 (.int .i64 (m : Int)) (.int .i64 (m : Int))).run Tryz.prog w = .ok (rowAt w.heap.size m) (w.alloc (.cells (is (List.replicate m 0)).toArray 3)) := by
  obtain ⟨i, hi, hz, hs, hb⟩ := info_parts (P := Tryz.prog) (e := 3) (z := .int .i64 0) (size := 1) (bytes := 8) (by kernel_rfl)
  have hr := run_make (P := Tryz.prog) w 50 3 i _ Tryz.underlying50 hi hz .i64 .i64 m m (by omega) (Int.le_refl _) (by rw [hb]; omega) (by omega)
  have e : (madeCells #[Value.int .i64 0] m) = (is (List.replicate m 0)).toArray := by
    apply Array.ext_getElem?
    intro i
    by_cases hi : i < m
    · simp [madeCells, is, hi, Nat.mod_one]
    · simp [madeCells, is, hi]
  rw [hr, hs, Int.toNat_natCast, show (Value.int .i64 0).cells = #[Value.int .i64 0] from rfl, Nat.mul_one, e]
theorem lfls_rep (m : Nat) : ∀ i, i < m * 12 → (lfls (List.replicate m lf0))[i]? = some (.int .i64 0) := by
  have e : ∀ m, lfls (List.replicate m lf0) = List.replicate (m * 12) (Value.int .i64 0) := by
    intro m
    induction m with
    | zero => rfl
    | succ m ih => rw [List.replicate_succ, lfls_cons, ih, show (m + 1) * 12 = 12 + m * 12 by omega, ← List.replicate_append_replicate]; rfl
  intro i hi
  rw [e]
  simp [hi]
theorem make_lfs (w : World) (m : Nat) (hm : m ≤ 1000) :
    (Instr.makeSlice 83 (.int .i64 (m : Int)) (.int .i64 (m : Int))).run Tryz.prog w = .ok (rowAt w.heap.size m) (w.alloc (.cells (lfls (List.replicate m lf0)).toArray 86)) := by
  obtain ⟨i, hi, hz, hs, hb⟩ := info_parts (P := Tryz.prog) (e := 86) (z := .agg (lcs lf0).toArray) (size := 12) (bytes := 96) (by kernel_rfl)
  have hr := run_make (P := Tryz.prog) w 83 86 i _ Tryz.underlying83 hi hz .i64 .i64 m m (by omega) (Int.le_refl _) (by rw [hb]; omega) (by omega)
  have hin : ∀ l ∈ List.replicate m lf0, In l := fun l hl => by rw [List.eq_of_mem_replicate hl]; exact lf0_in
  have hz12 : ∀ k, k < 12 → (lcs lf0).toArray[k]! = Value.int .i64 0 := fun k hk => by
    have e2 : lcs lf0 = List.replicate 12 (Value.int .i64 0) := rfl
    rw [e2]
    generalize (12 : Nat) = m12 at hk ⊢
    simp [hk]
  have e : (madeCells (lcs lf0).toArray (m * 12)) = (lfls (List.replicate m lf0)).toArray := by
    have e3 : (lcs lf0).toArray.size = 12 := rfl
    apply Array.ext_getElem?
    intro i
    by_cases hi : i < m * 12
    · have e4 := hz12 _ (Nat.mod_lt i (by decide : 0 < 12))
      have e5 := lfls_rep m i hi
      generalize lfls (List.replicate m lf0) = Y at e5 ⊢
      generalize lcs lf0 = Z at e3 e4 ⊢
      have e6 : Y.toArray[i]? = some (Value.int .i64 0) := by simpa using e5
      rw [e6]
      simp [madeCells, hi, e3]
      simpa using e4
    · have e5 : (lfls (List.replicate m lf0)).length = m * 12 := by rw [lfls_length hin, List.length_replicate]
      generalize lfls (List.replicate m lf0) = Y at e5 ⊢
      have h1 : Y.toArray[i]? = none := by simp; omega
      have h2 : (madeCells (lcs lf0).toArray (m * 12))[i]? = none := by
        apply Array.getElem?_eq_none
        rw [size_madeCells]
        omega
      rw [h1, h2]
  rw [hr, hs, Int.toNat_natCast, show (Value.agg (lcs lf0).toArray).cells = (lcs lf0).toArray from rfl, e]

end Go.Proofs.YtgnpohkippegpaaGreat

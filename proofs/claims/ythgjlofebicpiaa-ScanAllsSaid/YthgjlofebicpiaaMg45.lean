/-
  Mid ScJ RecJ
-/
import Derived.Test.YthgjlofebicpiaaMg07
import Derived.Laws.CopyRow
import Derived.Test.YthgjlofebicpiaaMg37
import Derived.Test.YthgjlofebicpiaaMg13
/-
  A value of many cells is laid into the midst of a block known whole. Nothing here speaks of one program.
-/
namespace Go.Proofs.Ythgjlofebicpiaa
open Go.RowKit
set_option linter.unusedVariables false

/-- a row with others laid over it from o on -/
def lay {α : Type} (cs : List α) (o : Nat) (vs : List α) : List α := cs.take o ++ vs ++ cs.drop (o + vs.length)
section
variable {α : Type} {cs vs : List α} {o : Nat}
theorem lay_length (h : o + vs.length ≤ cs.length) : (lay cs o vs).length = cs.length := by simp [lay]; omega
theorem lay_map {β : Type} (f : α → β) : lay (cs.map f) o (vs.map f) = (lay cs o vs).map f := by simp [lay]
theorem lay_low {k : Nat} (h : o + vs.length ≤ cs.length) (hk : k < o) : (lay cs o vs)[k]? = cs[k]? := by
  unfold lay
  rw [List.append_assoc, List.getElem?_append_left (by simp; omega), List.getElem?_take, if_pos hk]
theorem lay_in {k : Nat} (h : o + vs.length ≤ cs.length) (hk : k < vs.length) : (lay cs o vs)[o + k]? = vs[k]? := by
  unfold lay
  rw [List.append_assoc, List.getElem?_append_right (by simp; omega), List.getElem?_append_left (by simp; omega)]
  congr 1
  simp
  omega
theorem lay_high {k : Nat} (h : o + vs.length ≤ cs.length) (hk : o + vs.length ≤ k) : (lay cs o vs)[k]? = cs[k]? := by
  unfold lay
  rw [List.getElem?_append_right (by simp; omega), List.getElem?_drop]
  congr 1
  simp
  omega
theorem lay_self (h : o + vs.length ≤ cs.length) (hv : (cs.drop o).take vs.length = vs) : lay cs o vs = cs := by
  apply List.ext_getElem?
  intro k
  by_cases h1 : k < o
  · exact lay_low h h1
  · by_cases h2 : o + vs.length ≤ k
    · exact lay_high h h2
    · have e : k = o + (k - o) := by omega
      rw [e, lay_in h (by omega)]
      conv => lhs; rw [← hv]
      rw [List.getElem?_take, if_pos (by omega), List.getElem?_drop]
/-- one element turned in what is laid over -/
theorem lay_set {j : Nat} {x : α} (h : o + vs.length ≤ cs.length) (hv : (cs.drop o).take vs.length = vs) (hj : j < vs.length) : lay cs o (vs.set j x) = cs.set (o + j) x := by
  have hl : (vs.set j x).length = vs.length := by simp
  apply List.ext_getElem?
  intro k
  by_cases h1 : k < o
  · rw [lay_low (by omega) h1, List.getElem?_set_ne (by omega)]
  · by_cases h2 : o + vs.length ≤ k
    · rw [lay_high (by omega) (by omega), List.getElem?_set_ne (by omega)]
    · obtain ⟨i, rfl⟩ : ∃ i, k = o + i := ⟨k - o, by omega⟩
      rw [lay_in (by omega) (by omega)]
      by_cases hji : j = i
      · subst hji
        rw [List.getElem?_set_self hj, List.getElem?_set_self (by omega)]
      · rw [List.getElem?_set_ne hji, List.getElem?_set_ne (by omega)]
        conv => lhs; rw [← hv]
        rw [List.getElem?_take, if_pos (by omega), List.getElem?_drop]
end
section
variable {P : Program} (w : World)
theorem mid_heap {g off : Nat} {T : TypeId} {cs vs : List Value} (hb : Box w g T cs) (h1 : ∀ u ∈ vs, u.oneCell' = true) (hl : off + vs.length ≤ cs.length) :
    (storeCells ⟨g, off, none⟩ vs 0).run P w = .ok () (w.setRow g (lay cs off vs).toArray) := by
  have := run_storeCells_at (P := P) g off T vs 0 cs.toArray w hb (by simpa using hl) h1
  simpa [lay] using this
theorem mid_setRow {g : Nat} {T : TypeId} {cs cs' : List Value} (hb : Box w g T cs) : Box (w.setRow g cs'.toArray) g T cs' ∧ w.grownBy (w.setRow g cs'.toArray) (some g) ∧ (w.setRow g cs'.toArray).heap.size = w.heap.size :=
  ⟨setRow_heap w g _ _ _ _ hb, ⟨rfl, rfl, rfl, by simp [World.setRow], fun k _ hk => setRow_other w g k _ (by intro e; exact hk (by rw [e]))⟩, by simp [World.setRow]⟩
/-- a value of many cells is laid into the midst of a block -/
theorem wpList_store_midbox {ops : Array Oper} {rest : List Oper} {o : Oper} {a : Act} {Q : Exit → Act → World → Prop} (hgd : o.guard = none) (t : TypeId) (x y : Operand) (ho : o.op = .store t x y) (g off : Nat) (T : TypeId) (cs vs : List Value)
    (hsz : (P.info? t).map (·.size) = some vs.length) (hl : off + vs.length ≤ cs.length) (h1 : ∀ u ∈ vs, u.oneCell' = true) (hx : a.eval x = .pointer (some ⟨g, off, none⟩)) (hy : a.eval y = .agg vs.toArray) (hb : Box w g T cs)
    (h : ∀ w', Box w' g T (lay cs off vs) → w.grownBy w' (some g) → w'.heap.size = w.heap.size → wpList P ops Q rest (a.put o.dst undef) w') : wpList P ops Q (o :: rest) a w := by
  refine wpList_plain hgd fun K hK => ?_
  have hm := mid_heap (P := P) w hb h1 hl
  have hr : (storeVar t ⟨g, off, none⟩ (.agg vs.toArray)).run P w = .ok () (w.setRow g (lay cs off vs).toArray) := by
    cases hq : P.info? t with
    | none => simp [hq] at hsz
    | some i =>
      have hs : i.size = vs.length := by simpa [hq] using hsz
      simpa [storeVar, sizeOf, typeInfo, hq, Value.cells, hs] using hm
  unfold Oper.wp execOp
  simp only [ho, hx, hy, Instr.storeAt, Instr.sureAddr, Sem.run_bind, Sem.run_pure, Result.andThen_ok, hr]
  obtain ⟨r1, r2, r3⟩ := mid_setRow (cs' := lay cs off vs) w hb
  exact hK _ _ (h _ r1 r2 r3)
/-- 'clear' of a slice over a whole block of one-cell elements -/
theorem wpList_clear_box {ops : Array Oper} {rest : List Oper} {o : Oper} {a : Act} {Q : Exit → Act → World → Prop} (hgd : o.guard = none) (x : Operand) (t e : TypeId) (ho : o.op = .call { callee := .builtin .clear, args := #[x], argTypes := #[t] })
    (ht : P.underlying t = some (.slice e)) (z : Value) (hz : ∀ w, (zeroValue e).run P w = .ok z w) (hz1 : z.cells = #[z]) (hz2 : z.oneCell' = true) (g n : Nat) (T : TypeId) (cs : List Value) (hx : a.eval x = .slice (some ⟨g, 0, none⟩) n n) (hl : cs.length = n) (hb : Box w g T cs)
    (h : ∀ w', Box w' g T (List.replicate n z) → w.grownBy w' (some g) → w'.heap.size = w.heap.size → wpList P ops Q rest (a.put o.dst (.tuple #[])) w') : wpList P ops Q (o :: rest) a w := by
  refine wpList_plain hgd fun K hK => ?_
  have hzc : ∀ m, (Builtin.zeroCells #[z] m).toList = List.replicate m z := by
    intro m
    apply List.ext_getElem?
    intro i
    by_cases hi : i < m
    · simp [Builtin.zeroCells, hi, Nat.mod_one]
    · simp [Builtin.zeroCells, hi]
  by_cases h0 : n = 0
  · subst h0
    obtain rfl : cs = [] := List.eq_nil_of_length_eq_zero hl
    have hr : (Builtin.clear_ #[t] o.type #[.slice (some ⟨g, 0, none⟩) 0 0]).run P w = .ok (.tuple #[]) w := by
      simp [Builtin.clear_, run_underlying ht]
    unfold Oper.wp execOp
    simp only [ho, resolve, invoke, builtin, Sem.run_bind, Sem.run_pure, Result.andThen_ok, List.map_toArray, List.map_cons, List.map_nil, hx, hr]
    exact hK _ _ (h _ hb (World.grownBy.refl w _) rfl)
  · have hm := mid_heap (P := P) w (off := 0) (vs := List.replicate n z) hb (by intro u hu; rw [List.eq_of_mem_replicate hu]; exact hz2) (by simp; omega)
    have hlay : lay cs 0 (List.replicate n z) = List.replicate n z := by
      unfold lay
      rw [List.drop_eq_nil_of_le (by simp; omega)]
      simp
    rw [hlay] at hm
    obtain ⟨n', rfl⟩ : ∃ n', n = n' + 1 := ⟨n - 1, by omega⟩
    have hr : (Builtin.clear_ #[t] o.type #[.slice (some ⟨g, 0, none⟩) (n' + 1) (n' + 1)]).run P w = .ok (.tuple #[]) (w.setRow g (List.replicate (n' + 1) z).toArray) := by
      have e : (Builtin.zeroCells #[z] (n' + 1)).toList = List.replicate (n' + 1) z := hzc _
      simp [Builtin.clear_, hm, run_underlying ht, hz, hz1, e]
    unfold Oper.wp execOp
    simp only [ho, resolve, invoke, builtin, Sem.run_bind, Sem.run_pure, Result.andThen_ok, List.map_toArray, List.map_cons, List.map_nil, hx, hr]
    obtain ⟨r1, r2, r3⟩ := mid_setRow (cs' := List.replicate (n' + 1) z) w hb
    exact hK _ _ (h _ r1 r2 r3)
end
end Go.Proofs.Ythgjlofebicpiaa

/-
  Found records in a row of one's own: one is laid in its place; one is made, at steps of a region that draws its order.
-/
namespace Go.Proofs.Ythgjlofebicpiaa
open Go.RowKit Geom Zone Dev Word Rec Scan
set_option linter.unusedVariables false

theorem fls_lay {l : List Fo} {k : Nat} {f : Fo} (hin : ∀ f ∈ l, FIn f) (hf : FIn f) (hk : k < l.length) : lay (fls l) (k * 38) (fcs f) = fls (l.set k f) := by
  have h1 : ∀ g ∈ l.take k, FIn g := fun g hg => hin g (List.mem_of_mem_take hg)
  have e : l = l.take k ++ l[k]'hk :: l.drop (k + 1) := by rw [← List.drop_eq_getElem_cons hk, List.take_append_drop]
  have e2 : l.set k f = l.take k ++ f :: l.drop (k + 1) := by rw [List.set_eq_take_append_cons_drop, if_pos hk]
  have hlk := fls_length h1
  rw [List.length_take, Nat.min_eq_left (by omega)] at hlk
  have hfk := fcs_length (hin _ (List.getElem_mem hk))
  have hff := fcs_length hf
  have hc : ∀ (g : Fo) (r : List Fo), fls (g :: r) = fcs g ++ fls r := fun _ _ => rfl
  rw [e2]
  conv => lhs; rw [e]
  rw [fls_append, fls_append, hc, hc]
  unfold lay
  rw [List.take_left' hlk, hff, ← List.append_assoc (fls (l.take k)) (fcs (l[k]'hk)), List.drop_left' (by rw [List.length_append, hlk, hfk]), List.append_assoc]
theorem own_box {w : World} {B g c n : Nat} {xs : List Value} (hown : w.ownsRow B 56 38 (.slice (some ⟨g, 0, none⟩) n c) n xs) : ∃ cur : List Value, Box w g 56 cur ∧ cur.length = c * 38 ∧ cur.take (n * 38) = xs ∧ B ≤ g ∧ n ≤ c ∧ c ≤ maxLen := by
  rcases hown.2 with ⟨h, _⟩ | ⟨g', cap, cur, h1, h2, h3, h4, h5, h6, h7⟩
  · cases h
  · injection h1 with h1 _ h8
    injection h1 with h1
    injection h1 with h1
    subst h1; subst h8
    exact ⟨cur.toList, h3, by simpa using h6, h7, h2, h4, h5⟩
theorem box_own {w : World} {B g c n : Nat} {cur xs : List Value} (hb : Box w g 56 cur) (hl : cur.length = c * 38) (ht : cur.take (n * 38) = xs) (hx : xs.length = n * 38) (h1 : B ≤ g) (h2 : n ≤ c) (h3 : c ≤ maxLen) : w.ownsRow B 56 38 (.slice (some ⟨g, 0, none⟩) n c) n xs :=
  ⟨hx, .inr ⟨g, c, cur.toArray, rfl, h1, hb, h2, h3, by simpa using hl, by simpa using ht⟩⟩
section
variable {w : World} {ops : Array Oper} {rest : List Oper} {o : Oper} {a : Act} {Q : Exit → Act → World → Prop}
/-- one is laid in its place in a row -/
theorem wpList_fo_put (hgd : o.guard = none) (x y : Operand) (ho : o.op = .store 56 x y) {B g c n k m : Nat} {l : List Fo} (hown : w.ownsRow B 56 38 (.slice (some ⟨g, 0, none⟩) n c) n (fls l)) (hin : ∀ f ∈ l, FIn f) (hn : l.length = n) (hk : k < n) (f : Fo) (hf : FIn f) (hm : m = 38)
    (hx : a.eval x = .pointer (some ⟨g, k * m, none⟩)) (hy : a.eval y = .agg (fcs f).toArray)
    (h : ∀ w', w'.ownsRow B 56 38 (.slice (some ⟨g, 0, none⟩) n c) n (fls (l.set k f)) → w.grownBy w' (some g) → w'.heap.size = w.heap.size → wpList Try.prog ops Q rest (a.put o.dst undef) w') : wpList Try.prog ops Q (o :: rest) a w := by
  subst hm
  obtain ⟨cur, hb, hl, ht, h1, h2, h3⟩ := own_box hown
  have hfl := fcs_length hf
  have hc := Nat.mul_le_mul_right 38 h2
  have hkn : k * 38 + 38 ≤ n * 38 := by have := Nat.mul_le_mul_right 38 (show k + 1 ≤ n from hk); omega
  refine wpList_store_midbox w hgd _ x y ho g (k * 38) _ cur (fcs f) (fo_size hf) (by rw [hfl, hl]; omega) (fcs_one f) hx hy hb fun w' hb' hg hs => h w' ?_ hg hs
  have hin' : ∀ g ∈ l.set k f, FIn g := fun g hg => by
    rcases List.mem_or_eq_of_mem_set hg with h | h
    · exact hin g h
    · rw [h]; exact hf
  refine box_own hb' (by rw [lay_length (by rw [hfl, hl]; omega), hl]) ?_ (by rw [fls_length hin', List.length_set, hn]) h1 h2 h3
  rw [← fls_lay hin hf (by omega), ← ht]
  unfold lay
  rw [hfl, List.take_append, List.take_append, List.take_take, List.take_take, List.length_append, List.length_take]
  rw [Nat.min_eq_left (show k * 38 ≤ cur.length by omega), Nat.min_eq_right (show k * 38 ≤ n * 38 by omega), Nat.min_eq_left (show k * 38 ≤ n * 38 by omega), List.take_of_length_le (show (fcs f).length ≤ n * 38 - k * 38 by omega), hfl, List.drop_take]
end
section
variable {w : World} {ops : Array Oper} {o : Oper} {a : Act} {K : Act → World → Prop} {Q : Exit → Act → World → Prop} {E : Prop}
theorem step_fo_alloc (hgd : o.guard = none) (ho : o.op = .alloc 56)
    (h : ∀ w', Box w' w.heap.size 56 (fcs fo0) → Below w.heap.size w w' → w'.heap.size = w.heap.size + 1 → K (a.put o.dst (.pointer (some ⟨w.heap.size, 0, none⟩))) w') :
    if Region.wanted o (yielded ops a.tmps) = true then Oper.wp Try.prog o a w K Q else E := by
  have hw : Region.wanted o (yielded ops a.tmps) = true := by simp [Region.wanted, hgd]
  rw [if_pos hw]
  have e : (Instr.alloc 56 true (.tuple #[])).run Try.prog w = .ok (.pointer (some ⟨w.heap.size, 0, none⟩)) (w.alloc (.cells (fcs fo0).toArray 56)) := by
    simp [Instr.alloc, zero_found w, newVar, newRow, newObj, Value.cells]
    rfl
  have hK := h _ (Box.new w 56 (fcs fo0)) ((Below.refl _ _).alloc (Nat.le_refl _) _) (by simp)
  unfold Oper.wp execOp
  simp only [ho, Sem.run_bind, e, Result.andThen_ok]
  exact hK
theorem step_fo_store (hgd : o.guard = none) (x y : Operand) (ho : o.op = .store 56 x y) (g : Nat) (r old : Fo) (hr : FIn r) (hold : FIn old)
    (hx : a.eval x = .pointer (some ⟨g, 0, none⟩)) (hy : a.eval y = .agg (fcs r).toArray) (hb : Box w g 56 (fcs old)) (h : ∀ w', Box w' g 56 (fcs r) → w.grownBy w' (some g) → w'.heap.size = w.heap.size → K (a.put o.dst undef) w') :
    if Region.wanted o (yielded ops a.tmps) = true then Oper.wp Try.prog o a w K Q else E := by
  have hw : Region.wanted o (yielded ops a.tmps) = true := by simp [Region.wanted, hgd]
  rw [if_pos hw]
  have hrun := run_storeVar_row (P := Try.prog) w g 56 56 (fcs old).toArray (fcs r).toArray hb (by simpa using fo_size hr) (by simp [fcs_length hr, fcs_length hold]) (all_oneCell_toArray (fcs_one r))
  have hK := h (w.setRow g (fcs r).toArray) (setRow_heap w g _ _ _ _ hb) ⟨rfl, rfl, rfl, by simp [World.setRow], fun k _ hk => setRow_other w g k _ (by intro e; exact hk (by rw [e]))⟩ (by simp [World.setRow])
  unfold Oper.wp execOp
  simp only [ho, hx, hy, Instr.storeAt, Instr.sureAddr, Sem.run_bind, Sem.run_pure, Result.andThen_ok, hrun]
  exact hK
end
/-- append of one element of whatever size: also, where the row lies then -/
theorem wpList_append_new2 {P : Program} {w : World} {ops : Array Oper} {rest : List Oper} {o : Oper} {a : Act} {Q : Exit → Act → World → Prop} (hgd : o.guard = none) (s x : Operand) (t : TypeId)
    (ho : o.op = .call { callee := .builtin .append, args := #[s, x], argTypes := #[t, t] })
    (base : Nat) (e : TypeId) (z : Value) (size bytes : Nat) (he : Elem P t e z size bytes)
    (v : Value) (n : Nat) (xs : List Value) (hs : a.eval s = v) (us : List Value) (hx : a.eval x = .slice (some ⟨w.heap.size, 0, none⟩) 1 1) (hown : w.ownsRow base e size v n xs) (hus : us.length = size) (h1 : ∀ u ∈ us, u.oneCell' = true)
    (h63 : n + 1 ≤ maxLen) (hbytes : (n + 1) * bytes ≤ 140737488355328) (hbase : base ≤ w.heap.size)
    (h : ∀ v' w', w'.ownsRow base e size v' (n + 1) (xs ++ us) → w.grownBy w' v.ownBlock → (v'.ownBlock = v.ownBlock ∨ v'.ownBlock = some (w.heap.size + 1)) → wpList P ops Q rest (a.put o.dst v') w') : wpList P ops Q (o :: rest) a (w.alloc (.cells us.toArray e)) := by
  refine wpList_append_rd _ hgd s x t ho base e z size bytes he v n xs hs (hown.alloc _) _ _ 1 1 us hx (by omega) (rd_new w us e (0, 0)) h1 h63 hbytes (by simp; omega) ?_
  intro v' w' h2 h3 h4
  exact h v' w' h2 ((World.grownBy_alloc w _ _).trans h3) (by simpa using h4)
/-- one block hangs on the order -/
def MeetFo (A : Nat → Act) (R : World → Nat → Prop) : Exit → Act → World → Prop
  | .normal, a, w => ∃ b, R w b ∧ a = A b
  | _, _, _ => False
theorem wp_meetFo {P : Program} {c : Code} {Q : Exit → Act → World → Prop} {a : Act} {w : World} {A : Nat → Act} (R : World → Nat → Prop) (h : c.wp P (MeetFo A R) a w) (h2 : ∀ w' b, R w' b → Q .normal (A b) w') : c.wp P Q a w :=
  Code.wp_mono (fun e a' w' hm => by
    cases e <;> first | exact (hm : False).elim | (obtain ⟨b, hr, rfl⟩ := (hm : ∃ b, R w' b ∧ a' = A b); exact h2 _ b hr)) h
end Go.Proofs.Ythgjlofebicpiaa

/-
  The document's answers for layer 6: Right, low, high, Summed.
-/
namespace Go.Proofs.Ythgjlofebicpiaa
open Go.RowKit Word Crc Rec
set_option linter.unusedVariables false

set_option maxRecDepth 100000 in
set_option maxHeartbeats 4000000 in
theorem rright6_any (r : Rc) (w : World) (hi : In r) :
    Calls Try.prog 58 #[.agg (rcs r).toArray] w fun e w' => e = .returned (.bool (okB r)) ∧ Below w.heap.size w w' := by
  have hbx := Box.new w 50 (rcs r)
  have hB := (Below.refl w.heap.size w).alloc (Nat.le_refl _) (.cells (rcs r).toArray 50 (0, 0))
  obtain ⟨c0, c1, c2, c3, c4⟩ := hbx.rc
  have cd := hbx.rcData
  obtain ⟨m, hm, hsz⟩ := big_size (P := Try.prog) (t := 48) (s := 32) (by kernel_rfl)
  have hld := big_load0 Try.prog w.heap.size 5 (bs r.data) m (by rw [bs_length, hi.1, hm]) _ cd
  have hm0 : ¬ m = 0 := by omega
  have hq : ∀ w', (Op.equalIn 10000 48 (.agg (bs r.data).toArray) (.agg #[.int .u8 0, .int .u8 0, .int .u8 0, .int .u8 0, .int .u8 0, .int .u8 0, .int .u8 0, .int .u8 0, .int .u8 0, .int .u8 0, .int .u8 0, .int .u8 0, .int .u8 0, .int .u8 0, .int .u8 0, .int .u8 0, .int .u8 0, .int .u8 0, .int .u8 0, .int .u8 0, .int .u8 0, .int .u8 0, .int .u8 0, .int .u8 0, .int .u8 0, .int .u8 0, .int .u8 0, .int .u8 0, .int .u8 0, .int .u8 0, .int .u8 0, .int .u8 0])).run Try.prog w' = .ok (r.data == z32) w' := fun w' => equal_data w' r.data z32 hi.1 rfl
  have hgd := guard_data
  have HB := Lib.hid hB
  generalize hz : (r.data == z32) = zb at hq
  have HZ := Lib.hid (show zb = true ↔ r.data = z32 by rw [← hz]; exact beq_iff_eq)
  generalize hW : w.alloc (.cells (rcs r).toArray 50) = W at *
  generalize bs r.data = X at hld hq
  have HW := Lib.hid hW
  have HF : Hid (okB r = (numB r.epoch && numB r.seq && ((r.kind == 1 && (decide (0 ≤ r.block) && decide (r.block < 4096)) && r.count == 0) || (r.kind == 2 && (decide (0 ≤ r.block) && decide (r.block < 4096)) && r.count == 0 && zb) || (r.kind == 3 && (decide (0 ≤ r.block) && decide (r.block ≤ 1)) && (decide (0 ≤ r.count) && decide (r.count ≤ 4096)) && zb)))) := Lib.hid (by
    rw [okB_eq]
    congr 1
    unfold fitsB Fits
    rw [Bool.eq_iff_iff]
    simp only [decide_eq_true_eq, Bool.or_eq_true, Bool.and_eq_true, beq_iff_eq, HZ.out, and_assoc, or_assoc]
    have : (r.block = 0 ∨ r.block = 1) ↔ (0 ≤ r.block ∧ r.block ≤ 1) := by omega
    rw [this]
    simp only [and_assoc])
  clear hm hz hB hbx cd HZ hi
  generalize okB r = fb at HF
  obtain ⟨kind, epoch, seq, block, count, data⟩ := r
  simp only at *
  unfold numB at HF
  by_cases g0 : 1 ≤ epoch
  case neg =>
    go_enter Try.func58, Try.ntmps58
    go_wp2
    all_goals go_ret
    all_goals exact ⟨ret_bool (by rw [HF.out]; clear HW hW hq hld hsz c0 c1 c2 c3 c4; first | (simp; done) | (simp [*]; done) | (cases zb <;> simp [*] <;> omega) | (cases zb <;> simp_all)), HB.out⟩
  by_cases g1 : 1 ≤ seq
  case neg =>
    go_enter Try.func58, Try.ntmps58
    go_wp2
    all_goals go_ret
    all_goals exact ⟨ret_bool (by rw [HF.out]; clear HW hW hq hld hsz c0 c1 c2 c3 c4; first | (simp; done) | (simp [*]; done) | (cases zb <;> simp [*] <;> omega) | (cases zb <;> simp_all)), HB.out⟩
  by_cases g2 : epoch ≤ 1099511627776
  case neg =>
    go_enter Try.func58, Try.ntmps58
    go_wp2
    all_goals go_ret
    all_goals exact ⟨ret_bool (by rw [HF.out]; clear HW hW hq hld hsz c0 c1 c2 c3 c4; first | (simp; done) | (simp [*]; done) | (cases zb <;> simp [*] <;> omega) | (cases zb <;> simp_all)), HB.out⟩
  by_cases g3 : seq ≤ 1099511627776
  case neg =>
    go_enter Try.func58, Try.ntmps58
    go_wp2
    all_goals go_ret
    all_goals exact ⟨ret_bool (by rw [HF.out]; clear HW hW hq hld hsz c0 c1 c2 c3 c4; first | (simp; done) | (simp [*]; done) | (cases zb <;> simp [*] <;> omega) | (cases zb <;> simp_all)), HB.out⟩
  by_cases g4 : 1 ≤ kind
  case neg =>
    go_enter Try.func58, Try.ntmps58
    go_wp2
    all_goals go_ret
    all_goals exact ⟨ret_bool (by rw [HF.out]; clear HW hW hq hld hsz c0 c1 c2 c3 c4; first | (simp; done) | (simp [*]; done) | (cases zb <;> simp [*] <;> omega) | (cases zb <;> simp_all)), HB.out⟩
  by_cases g5 : kind ≤ 3
  case neg =>
    go_enter Try.func58, Try.ntmps58
    go_wp2
    all_goals go_ret
    all_goals exact ⟨ret_bool (by rw [HF.out]; clear HW hW hq hld hsz c0 c1 c2 c3 c4; first | (simp; done) | (simp [*]; done) | (cases zb <;> simp [*] <;> omega) | (cases zb <;> simp_all)), HB.out⟩
  have hk : kind = 1 ∨ kind = 2 ∨ kind = 3 := by omega
  have e1 : decide (1 ≤ epoch) = true := decide_eq_true g0
  rcases hk with rfl | rfl | rfl
  · rcases (show (¬ 0 ≤ block) ∨ (0 ≤ block ∧ ¬ block < 4096) ∨ (0 ≤ block ∧ block < 4096 ∧ ¬ count = 0) ∨ (0 ≤ block ∧ block < 4096 ∧ count = 0) by omega) with q0 | ⟨q0, q1⟩ | ⟨q0, q1, q2⟩ | ⟨q0, q1, rfl⟩ <;>
    (go_enter Try.func58, Try.ntmps58
     go_wp2
     all_goals go_ret
     all_goals exact ⟨ret_bool (by rw [HF.out]; clear HW hW hq hld hsz c0 c1 c2 c3 c4; first | (simp; done) | (simp [*]; done) | (cases zb <;> simp [*] <;> omega) | (cases zb <;> simp_all)), HB.out⟩)
  · rcases (show (¬ 0 ≤ block) ∨ (0 ≤ block ∧ ¬ block < 4096) ∨ (0 ≤ block ∧ block < 4096 ∧ ¬ count = 0) ∨ (0 ≤ block ∧ block < 4096 ∧ count = 0) by omega) with q0 | ⟨q0, q1⟩ | ⟨q0, q1, q2⟩ | ⟨q0, q1, rfl⟩ <;>
    (go_enter Try.func58, Try.ntmps58
     go_wp2
     all_goals go_ret
     all_goals exact ⟨ret_bool (by rw [HF.out]; clear HW hW hq hld hsz c0 c1 c2 c3 c4; first | (simp; done) | (simp [*]; done) | (cases zb <;> simp [*] <;> omega) | (cases zb <;> simp_all)), HB.out⟩)
  · rcases (show (¬ 0 ≤ block) ∨ (0 ≤ block ∧ ¬ block ≤ 1) ∨ (0 ≤ block ∧ block ≤ 1 ∧ ¬ 0 ≤ count) ∨ (0 ≤ block ∧ block ≤ 1 ∧ 0 ≤ count ∧ ¬ count ≤ 4096) ∨ (0 ≤ block ∧ block ≤ 1 ∧ 0 ≤ count ∧ count ≤ 4096) by omega) with q0 | ⟨q0, q1⟩ | ⟨q0, q1, q2⟩ | ⟨q0, q1, q2, q3⟩ | ⟨q0, q1, q2, q3⟩ <;>
    (go_enter Try.func58, Try.ntmps58
     go_wp2
     all_goals go_ret
     all_goals exact ⟨ret_bool (by rw [HF.out]; clear HW hW hq hld hsz c0 c1 c2 c3 c4; first | (simp; done) | (simp [*]; done) | (cases zb <;> simp [*] <;> omega) | (cases zb <;> simp_all)), HB.out⟩)
end Go.Proofs.Ythgjlofebicpiaa

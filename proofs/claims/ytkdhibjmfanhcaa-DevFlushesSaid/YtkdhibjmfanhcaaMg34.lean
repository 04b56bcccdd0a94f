/-
  DfG DfI
-/
import Derived.Test.YtkdhibjmfanhcaaMg33
/-
  The document's answers for layer 5: what stands in memory while Crash goes over the cache.
-/
namespace Go.Proofs.Ytkdhibjmfanhcaa
open Go.RowKit Geom Zone Dev
set_option linter.unusedVariables false

/-- the disk that a crash begins with -/
def oK (conv soft seq size opn : Int) (dv : Value) (A4 : Option Addr) (ns k4 : Nat) (ill : Int) : KV := ⟨conv, soft, seq, size, opn, nilV, dv, .slice A4 ns k4, nilV, false, 0, false, ill⟩
def rK (conv soft seq size opn : Int) (dv : Value) (ill : Int) : Option Addr → Nat → Nat → KV := fun A n k => oK conv soft seq size opn dv A n k ill
/-- a cell in a variable of its own -/
abbrev c00 : Wr := (0, 0, z64)
theorem zero_cell (w : World) : (zeroValue 74).run Try.prog w = .ok (.agg (wc c00).toArray) w :=
  (zero_of_info (P := Try.prog) (t := 74) (v := .agg (wc c00).toArray) (n := 66) (by kernel_rfl)).1 w
theorem cell_size {c : Wr} (hp : c.2.2.length = 64) : (Try.prog.info? 74).map (·.size) = some (wc c).length := by rw [wc_length hp]; kernel_rfl
theorem zero_seen (w : World) : (zeroValue 99).run Try.prog w = .ok (.agg (ints (List.replicate 64 0)).toArray) w :=
  (zero_of_info (P := Try.prog) (t := 99) (v := .agg (ints (List.replicate 64 0)).toArray) (n := 64) (by kernel_rfl)).1 w
section
variable {w : World} {ops : Array Oper} {rest : List Oper} {o : Oper} {a : Act} {Q : Exit → Act → World → Prop}
theorem wpList_cell_alloc (hgd : o.guard = none) (ho : o.op = .alloc 74)
    (h : ∀ w', Box w' w.heap.size 74 (wc c00) → Below w.heap.size w w' → w'.heap.size = w.heap.size + 1 → wpList Try.prog ops Q rest (a.put o.dst (.pointer (some ⟨w.heap.size, 0, none⟩))) w') : wpList Try.prog ops Q (o :: rest) a w :=
  wpList_alloc_box w hgd _ ho (wc c00) zero_cell h
theorem wpList_cell_store (hgd : o.guard = none) (x y : Operand) (ho : o.op = .store 74 x y) (g : Nat) (c old : Wr) (hp : c.2.2.length = 64) (hold : old.2.2.length = 64) (hx : a.eval x = .pointer (some ⟨g, 0, none⟩)) (hy : a.eval y = .agg (wc c).toArray) (hb : Box w g 74 (wc old))
    (h : ∀ w', Box w' g 74 (wc c) → w.grownBy w' (some g) → w'.heap.size = w.heap.size → wpList Try.prog ops Q rest (a.put o.dst undef) w') : wpList Try.prog ops Q (o :: rest) a w :=
  wpList_store_box w hgd _ x y ho g (wc c) (wc old) (cell_size hp) (by rw [wc_length hp, wc_length hold]) (fun u hu => wc_cells hu) hx hy hb
    (h _ (setRow_heap w g _ _ _ _ hb) ⟨rfl, rfl, rfl, by simp [World.setRow], fun k _ hk => setRow_other w g k _ (by intro e; exact hk (by rw [e]))⟩ (by simp [World.setRow]))
theorem wpList_seen_alloc (hgd : o.guard = none) (ho : o.op = .alloc 99)
    (h : ∀ w', Box w' w.heap.size 99 (ints (List.replicate 64 0)) → Below w.heap.size w w' → w'.heap.size = w.heap.size + 1 → wpList Try.prog ops Q rest (a.put o.dst (.pointer (some ⟨w.heap.size, 0, none⟩))) w') : wpList Try.prog ops Q (o :: rest) a w :=
  wpList_alloc_box w hgd _ ho (ints (List.replicate 64 0)) zero_seen h
end
theorem run_build_cell (w : World) (z o : Int) (p : List Int) (hp : p.length = 64) :
    (Instr.build 74 #[(0, .agg #[.int .i64 z, .int .i64 o]), (1, .agg (bs p).toArray)]).run Try.prog w = .ok (.agg (wc (z, o, p)).toArray) w := by
  have hz := zero_cell w
  unfold Instr.build
  simp only [Sem.run_bind, hz, Result.andThen, run_underlying Try.underlying74]
  have h36 : ∀ w : World, (sizeOf 40).run Try.prog w = .ok 2 w := by intro w; go_simp
  have h38 : ∀ w : World, (sizeOf 42).run Try.prog w = .ok 64 w := by intro w; go_simp
  simp only [List.mapM_toArray, List.mapM_cons, List.mapM_nil, Sem.run_bind, Sem.run_pure, h36, h38, Result.andThen, Sem.run_map]
  have e : Instr.fill (fun x => #[((0, 2) : Nat × Nat), (2, 64)][x]?) (Value.agg (wc (0, 0, z64)).toArray).cells [(0, Value.agg #[Value.int .i64 z, Value.int .i64 o]), (1, Value.agg (bs p).toArray)] = some (wc (z, o, p)).toArray := fill_written z o p hp _ rfl rfl
  rw [e]
  rfl
theorem wpList_build_cell (w : World) {ops : Array Oper} {rest : List Oper} {o : Oper} {a : Act} {Q : Exit → Act → World → Prop} (hgd : o.guard = none) (x y : Operand) (ho : o.op = .build 74 #[(0, x), (1, y)]) (z f : Int) (p : List Int) (hp : p.length = 64)
    (hx : a.eval x = .agg #[.int .i64 z, .int .i64 f]) (hy : a.eval y = .agg (bs p).toArray) (h : wpList Try.prog ops Q rest (a.put o.dst (.agg (wc (z, f, p)).toArray)) w) : wpList Try.prog ops Q (o :: rest) a w := by
  refine wpList_plain hgd fun K hK => ?_
  unfold Oper.wp
  simp [execOp, ho, hx, hy, run_build_cell w z f p hp, Result.andThen]
  exact hK _ _ h
theorem grown_setCell (w : World) (a : Addr) (u : Value) : w.grownBy (w.setCell a u) (some a.block) :=
  ⟨rfl, rfl, rfl, by simp, fun k _ hk => Below.heap_setCell w a u k (by intro e; exact hk (by rw [e]))⟩
theorem ints_set (l : List Int) (i : Nat) (x : Int) : ints (l.set i x) = (ints l).set i (.int .i64 x) := by simp [ints]
section
variable {P : Program} {w : World} {ops : Array Oper} {rest : List Oper} {o : Oper} {a : Act} {Q : Exit → Act → World → Prop}
/-- one cell of a variable is laid -/
theorem wpList_box_int (hgd : o.guard = none) (t : TypeId) (x y : Operand) (ho : o.op = .store t x y) (g i : Nat) (T : TypeId) (cs : List Value) (n : Int) (old : Value) (hx : a.eval x = .pointer (some ⟨g, i, none⟩)) (hy : a.eval y = .int .i64 n) (hb : Box w g T cs) (hc : cs[i]? = some old) (hsz : ∀ w, (sizeOf t).run P w = .ok 1 w)
    (h : ∀ w', w' = w.setCell ⟨g, i, none⟩ (.int .i64 n) → wpList P ops Q rest (a.put o.dst undef) w') : wpList P ops Q (o :: rest) a w := by
  have hcell := (hb.cell i).trans hc
  have hf := hb.frozen i
  have h' := h _ rfl
  refine wpList_plain hgd fun K hK => ?_
  have hk := hK _ _ h'
  clear hK h h'
  unfold Oper.wp execOp
  simp only [ho, hx, hy]
  go_simp
  exact hk
theorem wpList_box_u8 (hgd : o.guard = none) (t : TypeId) (x y : Operand) (ho : o.op = .store t x y) (g i : Nat) (T : TypeId) (cs : List Value) (n : Int) (old : Value) (hx : a.eval x = .pointer (some ⟨g, i, none⟩)) (hy : a.eval y = .int .u8 n) (hb : Box w g T cs) (hc : cs[i]? = some old) (hsz : ∀ w, (sizeOf t).run P w = .ok 1 w)
    (h : ∀ w', w' = w.setCell ⟨g, i, none⟩ (.int .u8 n) → wpList P ops Q rest (a.put o.dst undef) w') : wpList P ops Q (o :: rest) a w := by
  have hcell := (hb.cell i).trans hc
  have hf := hb.frozen i
  have h' := h _ rfl
  refine wpList_plain hgd fun K hK => ?_
  have hk := hK _ _ h'
  clear hK h h'
  unfold Oper.wp execOp
  simp only [ho, hx, hy]
  go_simp
  exact hk
theorem wpList_box_slice (hgd : o.guard = none) (t : TypeId) (x y : Operand) (ho : o.op = .store t x y) (g i : Nat) (T : TypeId) (cs : List Value) (A : Option Addr) (n c : Nat) (old : Value) (hx : a.eval x = .pointer (some ⟨g, i, none⟩)) (hy : a.eval y = .slice A n c) (hb : Box w g T cs) (hc : cs[i]? = some old) (hsz : ∀ w, (sizeOf t).run P w = .ok 1 w)
    (h : ∀ w', w' = w.setCell ⟨g, i, none⟩ (.slice A n c) → wpList P ops Q rest (a.put o.dst undef) w') : wpList P ops Q (o :: rest) a w := by
  have hcell := (hb.cell i).trans hc
  have hf := hb.frozen i
  have h' := h _ rfl
  refine wpList_plain hgd fun K hK => ?_
  have hk := hK _ _ h'
  clear hK h h'
  unfold Oper.wp execOp
  simp only [ho, hx, hy]
  go_simp
  exact hk
end
theorem wc_byte {z o : Int} {p : List Int} {q : Nat} (h : q < p.length) : (wc (z, o, p))[2 + q]? = some (.int .u8 (p.getD q 0)) := by
  unfold wc
  rw [show 2 + q = q + 1 + 1 by omega, List.getElem?_cons_succ, List.getElem?_cons_succ]
  simp [bs, List.getD_eq_getElem?_getD, List.getElem?_eq_getElem h]
theorem bs_at {p : List Int} {q : Nat} (h : q < p.length) : (bs p)[q]? = some (.int .u8 (p.getD q 0)) := by
  simp [bs, List.getD_eq_getElem?_getD, List.getElem?_eq_getElem h]
theorem bs_set1 (p : List Int) (q : Nat) (x : Int) : bs (p.set q x) = (bs p).set q (.int .u8 x) := by simp [bs]
/-- in front of a round: d, the wreck, the disk to be, what was seen, what is safe -/
structure CrL (w W : World) (v : KV) (wk : List Value) (r : Option Addr → Nat → Nat → KV) (b5 b8 : Nat) (seen : List Int) (S : List Wr) (A : Option Addr) (n c : Nat) : Prop where
  st : CrSt w W v wk
  bx : Box W b5 36 (kcs (r A n c))
  sn : Box W b8 99 (ints seen)
  own : W.ownsRow (w.heap.size + 3) 74 66 (.slice A n c) n (wcs S)
  at5 : w.heap.size + 3 ≤ b5
  at8 : w.heap.size + 3 ≤ b8
  len : S.length = n
section
variable {w W W' : World} {v : KV} {wk : List Value} {r : Option Addr → Nat → Nat → KV} {b5 b8 : Nat} {seen : List Int} {S : List Wr} {A : Option Addr} {n c : Nat}
theorem CrL.on (h : CrL w W v wk r b5 b8 seen S A n c) (hb : Below W.heap.size W W') : CrL w W' v wk r b5 b8 seen S A n c :=
  ⟨h.st.on hb, h.bx.on hb, h.sn.on hb, own_same h.own fun g hg => hb.block g (h.own.lt g hg).2, h.at5, h.at8, h.len⟩
theorem CrL.below3 (h : CrL w W v wk r b5 b8 seen S A n c) : Below (w.heap.size + 3) W W := Below.refl _ _
theorem CrSt.grown3 (h : CrSt w W v wk) (hb : Below (w.heap.size + 3) W W') : CrSt w W' v wk :=
  ⟨h.1.below hb (by omega), h.2.1.below hb (by omega), h.2.2.1.below hb (by omega), h.2.2.2.1.trans (hb.mono (by omega)), Nat.le_trans h.2.2.2.2 hb.size⟩
/-- one more was seen -/
theorem CrL.see (h : CrL w W v wk r b5 b8 seen S A n c) (i : Nat) (x : Int) : CrL w (W.setCell ⟨b8, i, none⟩ (.int .i64 x)) v wk r b5 b8 (seen.set i x) S A n c := by
  have hlt := h.sn.lt
  have hg : W.grownBy (W.setCell ⟨b8, i, none⟩ (.int .i64 x)) (some b8) := grown_setCell W ⟨b8, i, none⟩ _
  have h8 := h.at8
  have hb : Below (w.heap.size + 3) W (W.setCell ⟨b8, i, none⟩ (.int .i64 x)) := below_stored (Below.refl _ _) hg h.st.2.2.2.2 h8
  exact ⟨h.st.grown3 hb, h.bx.grown hg (h.bx.ne h.sn (by decide)), by rw [ints_set]; exact h.sn.set i _, own_same h.own fun g hg' => hg.block g (h.own.lt g hg').2 fun e => h.sn.ne_row h.own hg' (by decide) (by injection e with e; exact e.symm), h.at5, h.at8, h.len⟩
/-- a cell more is safe: the row grew, then the disk's field was laid -/
theorem CrL.more {conv soft seq size opn ill : Int} {dv : Value} {W1 : World} {c1 : Nat} {A1 : Option Addr} {S1 : List Wr} {n1 : Nat} (h : CrL w W v wk (rK conv soft seq size opn dv ill) b5 b8 seen S A n c) (hg : W.grownBy W1 (Value.slice A n c).ownBlock) (hown : W1.ownsRow (w.heap.size + 3) 74 66 (.slice A1 n1 c1) n1 (wcs S1)) (hl : S1.length = n1) :
    CrL w (W1.setCell ⟨b5, 7, none⟩ (.slice A1 n1 c1)) v wk (rK conv soft seq size opn dv ill) b5 b8 seen S1 A1 n1 c1 := by
  have h5 := h.at5
  have hb1 : Below (w.heap.size + 3) W W1 := (Below.refl _ _).grown hg h.st.2.2.2.2 fun g hg' => (h.own.lt g hg').1
  have hne5 : ∀ g, (Value.slice A n c).ownBlock = some g → b5 ≠ g := fun g hg' => h.bx.ne_row h.own hg' (by decide)
  have hne8 : ∀ g, (Value.slice A n c).ownBlock = some g → b8 ≠ g := fun g hg' => h.sn.ne_row h.own hg' (by decide)
  have x5 : Box W1 b5 36 (kcs (rK conv soft seq size opn dv ill A n c)) := h.bx.same (hg.block _ h.bx.lt fun e => hne5 b5 e.symm rfl)
  have x8 : Box W1 b8 99 (ints seen) := h.sn.same (hg.block _ h.sn.lt fun e => hne8 b8 e.symm rfl)
  have hg2 : W1.grownBy (W1.setCell ⟨b5, 7, none⟩ (.slice A1 n1 c1)) (some b5) := grown_setCell W1 ⟨b5, 7, none⟩ _
  have hb2 : Below (w.heap.size + 3) W (W1.setCell ⟨b5, 7, none⟩ (.slice A1 n1 c1)) := below_stored hb1 hg2 (Nat.le_trans h.st.2.2.2.2 hb1.size) h5
  have hset : (kcs (rK conv soft seq size opn dv ill A n c)).set 7 (.slice A1 n1 c1) = kcs (rK conv soft seq size opn dv ill A1 n1 c1) := rfl
  refine ⟨h.st.grown3 hb2, ?_, x8.grown hg2 (fun e => x5.ne x8 (by decide) e.symm), own_same hown fun g hg' => hg2.block g (hown.lt g hg').2 fun e => x5.ne_row hown hg' (by decide) (by injection e with e; exact e.symm), h.at5, h.at8, hl⟩
  rw [← hset]
  exact x5.set 7 _
/-- .. by a cell that was at hand -/
theorem CrL.more1 {conv soft seq size opn ill : Int} {dv : Value} {W1 : World} {c1 : Nat} {A1 : Option Addr} {x : Wr} (h : CrL w W v wk (rK conv soft seq size opn dv ill) b5 b8 seen S A n c) (hg : W.grownBy W1 (Value.slice A n c).ownBlock) (hown : W1.ownsRow (w.heap.size + 3) 74 66 (.slice A1 (n + 1) c1) (n + 1) (wcs S ++ wc x)) :
    CrL w (W1.setCell ⟨b5, 7, none⟩ (.slice A1 (n + 1) c1)) v wk (rK conv soft seq size opn dv ill) b5 b8 seen (S ++ [x]) A1 (n + 1) c1 :=
  h.more hg (by rw [wcs_append, wcs_one]; exact hown) (by rw [List.length_append, h.len]; rfl)
theorem CrL.five {W1 : World} (h : CrL w W v wk r b5 b8 seen S A n c) (hg : W.grownBy W1 (Value.slice A n c).ownBlock) : Box W1 b5 36 (kcs (r A n c)) :=
  h.bx.same (hg.block _ h.bx.lt fun e => h.bx.ne_row h.own e.symm (by decide) rfl)
theorem size_rcells (w : World) : (sizeOf 34).run Try.prog w = .ok 1 w := by go_simp
theorem size_i64 (w : World) : (sizeOf 3).run Try.prog w = .ok 1 w := by go_simp
end
end Go.Proofs.Ytkdhibjmfanhcaa

/-
  The document's answers for layer 5: Crash's loop over the zones: mathematics, and what stands in memory.
-/
namespace Go.Proofs.Ytkdhibjmfanhcaa
open Go.RowKit Geom Zone Dev
set_option linter.unusedVariables false

namespace Dev
variable {conv size : Int} {keep : List Int} {soft0 tear : Int} {d : Dk} {S : List Wr} {z : Int}
theorem safeK_ok (h0 : 0 ≤ soft0 ∧ soft0 < 18446744073709551616) (hs : WOk d.safe) (hw : WOk d.cached) : WOk (safeK conv keep soft0 tear d) ∧ (safeK conv keep soft0 tear d).length ≤ d.safe.length + d.cached.length + 1 := by
  rw [← SAt_end (conv := conv) (keep := keep) (soft0 := soft0) (tear := tear) (d := d)]
  rcases Nat.eq_zero_or_pos d.cached.length with h | h
  · rw [h, SAt_zero]
    exact ⟨hs, by omega⟩
  · obtain ⟨k, hk⟩ : ∃ k, d.cached.length = k + 1 := ⟨d.cached.length - 1, by omega⟩
    have hc : d.cached[k]? = some (d.cached[k]'(by omega)) := List.getElem?_eq_getElem (by omega)
    have h1 := sAt_ok (conv := conv) (keep := keep) h0 hs hw (k + 1) (by omega)
    have hp := hw _ (List.getElem_mem (show k < d.cached.length by omega))
    rw [hk, SAt_succ hc, ← sAt_succ hc]
    split
    · refine ⟨wok_append h1.wok (fun x hx => by rw [List.mem_singleton.1 hx]; exact torn_wok hp hs h1.wok), ?_⟩
      have := h1.safe
      simp
      omega
    · exact ⟨h1.wok, by have := h1.safe; omega⟩
theorem lead_step {i m : Nat} (h : (fnd S (z, (i : Int))).isSome = true) : leadK S z i (m + 1) = leadK S z (i + 1) m := by
  conv => lhs; unfold leadK
  rw [if_pos h]
theorem lead_stop {i m : Nat} (h : (fnd S (z, (i : Int))).isSome = false) : leadK S z i m = i := by
  cases m with
  | zero => rfl
  | succ m =>
    conv => lhs; unfold leadK
    rw [if_neg (by rw [h]; simp)]
theorem lead_from {m : Nat} : ∀ j, j ≤ m → (∀ i, i < j → (fnd S (z, (i : Int))).isSome = true) → leadK S z 0 m = leadK S z j (m - j)
  | 0, _, _ => rfl
  | j + 1, hj, h => by
    rw [lead_from j (by omega) (fun i hi => h i (by omega)), show m - j = (m - (j + 1)) + 1 by omega, lead_step (h j (by omega))]
theorem lead_all {m : Nat} (h : ∀ i, i < m → (fnd S (z, (i : Int))).isSome = true) : leadK S z 0 m = m := by
  rw [lead_from m (Nat.le_refl _) h, Nat.sub_self]
  rfl
theorem lead_at {m j : Nat} (hj : j ≤ m) (h : ∀ i, i < j → (fnd S (z, (i : Int))).isSome = true) (h2 : (fnd S (z, (j : Int))).isSome = false) : leadK S z 0 m = j := by
  rw [lead_from j hj h, lead_stop h2]
/-- the zones behind a crash -/
def crL (conv size : Int) (S : List Wr) (d : Dk) : List Z := d.L.zipIdx.map fun x => if (x.2 : Int) < conv then x.1 else shutZ (decide ((x.2 : Int) ∈ d.done)) size (leadK S (x.2 : Int) 0 size.toNat)
theorem crL_length : (crL conv size S d).length = d.L.length := by simp [crL]
theorem crL_take {k : Nat} {x : Z} (h : d.L[k]? = some x) : (crL conv size S d).take (k + 1) = (crL conv size S d).take k ++ [if (k : Int) < conv then x else shutZ (decide ((k : Int) ∈ d.done)) size (leadK S (k : Int) 0 size.toNat)] := by
  have hk : k < d.L.length := (List.getElem?_eq_some_iff.1 h).1
  have e : d.L[k] = x := (List.getElem?_eq_some_iff.1 h).2
  rw [List.take_succ_eq_append_getElem (by rw [crL_length]; exact hk)]
  congr 2
  simp [crL, e]
theorem crashK_eq : crashK conv size keep soft0 tear d = { L := crL conv size (safeK conv keep soft0 tear d) d, done := d.done, safe := safeK conv keep soft0 tear d, cached := [], armed := false, left := 0, down := false, ill := d.ill } := rfl
end Dev

/-- the disk that comes of a crash, its zones so far -/
def zK (conv soft seq size opn : Int) (dv sv : Value) (ill : Int) (zv : Value) : KV := ⟨conv, soft, seq, size, opn, zv, dv, sv, nilV, false, 0, false, ill⟩
theorem rK_zK (conv soft seq size opn : Int) (dv : Value) (ill : Int) (A : Option Addr) (n c : Nat) : rK conv soft seq size opn dv ill A n c = zK conv soft seq size opn dv (.slice A n c) ill nilV := rfl
/-- a zone in a variable of its own -/
abbrev zcs (x : Z) : List Value := [.int .i64 x.1, .int .i64 x.2]
theorem zcs0 (a b : Int) : (zcs (a, b))[0]? = some (.int .i64 a) := rfl
theorem zcs1 (a b : Int) : (zcs (a, b))[1]? = some (.int .i64 b) := rfl
theorem zero_zone (w : World) : (zeroValue 53).run Try.prog w = .ok (.agg (zcs (0, 0)).toArray) w :=
  (zero_of_info (P := Try.prog) (t := 53) (v := .agg (zcs (0, 0)).toArray) (n := 2) (by kernel_rfl)).1 w
section
variable {w : World} {ops : Array Oper} {rest : List Oper} {o : Oper} {a : Act} {Q : Exit → Act → World → Prop}
theorem wpList_zn_alloc (hgd : o.guard = none) (ho : o.op = .alloc 53)
    (h : ∀ w', Box w' w.heap.size 53 (zcs (0, 0)) → Below w.heap.size w w' → w'.heap.size = w.heap.size + 1 → wpList Try.prog ops Q rest (a.put o.dst (.pointer (some ⟨w.heap.size, 0, none⟩))) w') : wpList Try.prog ops Q (o :: rest) a w :=
  wpList_alloc_box w hgd _ ho (zcs (0, 0)) zero_zone h
theorem wpList_zn_store (hgd : o.guard = none) (x y : Operand) (ho : o.op = .store 53 x y) (g : Nat) (r old : Z) (hx : a.eval x = .pointer (some ⟨g, 0, none⟩)) (hy : a.eval y = .agg (zcs r).toArray) (hb : Box w g 53 (zcs old))
    (h : ∀ w', Box w' g 53 (zcs r) → w.grownBy w' (some g) → w'.heap.size = w.heap.size → wpList Try.prog ops Q rest (a.put o.dst undef) w') : wpList Try.prog ops Q (o :: rest) a w :=
  wpList_store_box w hgd _ x y ho g (zcs r) (zcs old) (by kernel_rfl) rfl (fun u hu => by simp at hu; rcases hu with rfl | rfl <;> rfl) hx hy hb
    (h _ (setRow_heap w g _ _ _ _ hb) ⟨rfl, rfl, rfl, by simp [World.setRow], fun k _ hk => setRow_other w g k _ (by intro e; exact hk (by rw [e]))⟩ (by simp [World.setRow]))
end
theorem own_other {w : World} {base base' : Nat} {e e' : TypeId} {sz sz' n n' : Nat} {v v' : Value} {xs xs' : List Value} (h : w.ownsRow base e sz v n xs) (h' : w.ownsRow base' e' sz' v' n' xs') (hn : e ≠ e') {g : Nat} (hg : v.ownBlock = some g) : v'.ownBlock ≠ some g := fun hg' => by
  obtain ⟨_, cur, h2⟩ := own_type h hg
  obtain ⟨_, cur', h3⟩ := own_type h' hg'
  rw [h3] at h2
  injection h2 with h2
  injection h2 with _ h2
  exact hn h2.symm
/-- in front of a round over the zones: the answer's disk, the wreck, the disk to be, what is safe, the zones so far -/
structure CrZ (w W : World) (v : KV) (wk : List Value) (r : Value → KV) (b5 : Nat) (S : List Wr) (A : Option Addr) (n c : Nat) (Zs : List Z) (A2 : Option Addr) (k2 c2 : Nat) : Prop where
  st : CrSt w W v wk
  bx : Box W b5 36 (kcs (r (.slice A2 k2 c2)))
  own : W.ownsRow (w.heap.size + 3) 74 66 (.slice A n c) n (wcs S)
  ownz : W.ownsRow (w.heap.size + 3) 53 2 (.slice A2 k2 c2) k2 (zc Zs)
  at5 : w.heap.size + 3 ≤ b5
  len : S.length = n
  lenz : Zs.length = k2
section
variable {w W W' : World} {v : KV} {wk : List Value} {r : Value → KV} {b5 : Nat} {S : List Wr} {A A2 : Option Addr} {n c k2 c2 : Nat} {Zs : List Z}
theorem CrZ.on (h : CrZ w W v wk r b5 S A n c Zs A2 k2 c2) (hb : Below W.heap.size W W') : CrZ w W' v wk r b5 S A n c Zs A2 k2 c2 :=
  ⟨h.st.on hb, h.bx.on hb, own_same h.own fun g hg => hb.block g (h.own.lt g hg).2, own_same h.ownz fun g hg => hb.block g (h.ownz.lt g hg).2, h.at5, h.len, h.lenz⟩
theorem CrZ.start {conv soft seq size opn ill : Int} {dv : Value} {b8 : Nat} {seen : List Int} (h : CrL w W v wk (rK conv soft seq size opn dv ill) b5 b8 seen S A n c) : CrZ w W v wk (zK conv soft seq size opn dv (.slice A n c) ill) b5 S A n c [] none 0 0 :=
  ⟨h.st, h.bx, h.own, World.ownsRow_nil _ _ _ _, h.at5, h.len, rfl⟩
theorem CrZ.five {W1 : World} (h : CrZ w W v wk r b5 S A n c Zs A2 k2 c2) (hg : W.grownBy W1 (Value.slice A2 k2 c2).ownBlock) : Box W1 b5 36 (kcs (r (.slice A2 k2 c2))) :=
  h.bx.same (hg.block _ h.bx.lt fun e => h.bx.ne_row h.ownz e.symm (by decide) rfl)
/-- a zone more -/
theorem CrZ.more {conv soft seq size opn ill : Int} {dv sv : Value} {W1 : World} {A3 : Option Addr} {c3 : Nat} {x : Z} (h : CrZ w W v wk (zK conv soft seq size opn dv sv ill) b5 S A n c Zs A2 k2 c2) (hg : W.grownBy W1 (Value.slice A2 k2 c2).ownBlock)
    (hown : W1.ownsRow (w.heap.size + 3) 53 2 (.slice A3 (k2 + 1) c3) (k2 + 1) (zc Zs ++ zcs x)) :
    CrZ w (W1.setCell ⟨b5, 5, none⟩ (.slice A3 (k2 + 1) c3)) v wk (zK conv soft seq size opn dv sv ill) b5 S A n c (Zs ++ [x]) A3 (k2 + 1) c3 := by
  have h5 := h.at5
  have hb1 : Below (w.heap.size + 3) W W1 := (Below.refl _ _).grown hg h.st.2.2.2.2 fun g hg' => (h.ownz.lt g hg').1
  have x5 := h.five hg
  have o1 : W1.ownsRow (w.heap.size + 3) 74 66 (.slice A n c) n (wcs S) := own_same h.own fun g hg' => hg.block g (h.own.lt g hg').2 fun e => own_other h.own h.ownz (by decide) hg' (by rw [e])
  have hg2 : W1.grownBy (W1.setCell ⟨b5, 5, none⟩ (.slice A3 (k2 + 1) c3)) (some b5) := grown_setCell W1 ⟨b5, 5, none⟩ _
  have hb2 : Below (w.heap.size + 3) W (W1.setCell ⟨b5, 5, none⟩ (.slice A3 (k2 + 1) c3)) := below_stored hb1 hg2 (Nat.le_trans h.st.2.2.2.2 hb1.size) h5
  refine ⟨h.st.grown3 hb2, x5.set 5 _, own_same o1 fun g hg' => hg2.block g (o1.lt g hg').2 fun e => x5.ne_row o1 hg' (by decide) (by injection e with e; exact e.symm), ?_, h.at5, h.len, by simp [h.lenz]⟩
  rw [zc_append]
  exact own_same hown fun g hg' => hg2.block g (hown.lt g hg').2 fun e => x5.ne_row hown hg' (by decide) (by injection e with e; exact e.symm)
end
theorem CrZ.done {w W W9 : World} {v : KV} {wk : List Value} {r : Value → KV} {b5 : Nat} {S : List Wr} {A A2 : Option Addr} {n c k2 c2 : Nat} {Zs : List Z} (h : CrZ w W v wk r b5 S A n c Zs A2 k2 c2) (hg : W.grownBy W9 (some (w.heap.size + 1 + 1))) :
    W9.ownsRow (w.heap.size + 3) 74 66 (.slice A n c) n (wcs S) ∧ W9.ownsRow (w.heap.size + 3) 53 2 (.slice A2 k2 c2) k2 (zc Zs) ∧ Below w.heap.size w W9 :=
  ⟨own_same h.own fun g hg' => hg.block g (h.own.lt g hg').2 fun e => by have := (h.own.lt g hg').1; injection e with e; omega, own_same h.ownz fun g hg' => hg.block g (h.ownz.lt g hg').2 fun e => by have := (h.ownz.lt g hg').1; injection e with e; omega, below_stored h.st.2.2.2.1 hg h.st.2.2.2.1.size (by omega)⟩
theorem sec_bd {conv soft seq size opn : Int} (h : Ok conv soft seq size opn) (z : Int) : ∃ s : Nat, sectors conv soft seq size z = s ∧ s ≤ 65536 ∧ (conv ≤ z → z < conv + seq → (s : Int) = size) := by
  obtain ⟨h1, h2, h3, h4, h5, h6, h7, h8⟩ := id h
  have hp := pages_bd h.some
  refine ⟨(sectors conv soft seq size z).toNat, ?_, ?_, ?_⟩
  all_goals unfold sectors
  · split
    · rfl
    · split <;> omega
  · split
    · omega
    · split <;> omega
  · intro a b
    rw [if_neg (by omega), if_neg (by omega)]
    omega
theorem size_rzones (w : World) : (sizeOf 33).run Try.prog w = .ok 1 w := by go_simp
end Go.Proofs.Ytkdhibjmfanhcaa

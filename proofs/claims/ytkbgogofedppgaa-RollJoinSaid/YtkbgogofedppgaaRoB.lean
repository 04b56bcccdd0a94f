/-
  Changes and groups in memory: their cells, lists of them, rows within rows.
-/
import Derived.Test.YtkbgogofedppgaaScB
import Derived.Test.YtkbgogofedppgaaRoM
import Derived.Laws.StructEq
namespace Go.Proofs.Ytkbgogofedppgaa
open Go.RowKit Word Rec Scan Roll
set_option linter.unusedVariables false

/-- a change's cells -/
abbrev hcs (c : Ch) : List Value := [.int .i64 c.b, .int .i64 c.p]
def hls (l : List Ch) : List Value := l.flatMap hcs
theorem hls_cons (x : Ch) (l : List Ch) : hls (x :: l) = hcs x ++ hls l := rfl
theorem hls_append (l r : List Ch) : hls (l ++ r) = hls l ++ hls r := by simp [hls]
theorem hls_single (x : Ch) : hls [x] = hcs x := by simp [hls]
theorem hls_length (l : List Ch) : (hls l).length = l.length * 2 := by
  induction l with
  | nil => rfl
  | cons x l ih =>
    rw [hls_cons, List.length_append, ih]
    simp [hcs]
    omega
theorem hcs_one (x : Ch) : ∀ u ∈ hcs x, u.oneCell' = true := by
  intro u hu
  simp [hcs] at hu
  rcases hu with rfl | rfl <;> rfl
theorem hls_one (l : List Ch) : ∀ u ∈ hls l, u.oneCell' = true := by
  intro u hu
  obtain ⟨x, _, hu⟩ := List.mem_flatMap.1 hu
  exact hcs_one x u hu
theorem hls_at {l : List Ch} {k j : Nat} {x : Ch} {v : Value} (hk : l[k]? = some x) (hv : (hcs x)[j]? = some v) : (hls l)[k * 2 + j]? = some v := by
  induction l generalizing k with
  | nil => simp at hk
  | cons y l ih =>
    rw [hls_cons]
    cases k with
    | zero =>
      obtain rfl : y = x := by simpa using hk
      have hj : j < (hcs y).length := (List.getElem?_eq_some_iff.1 hv).1
      rw [Nat.zero_mul, Nat.zero_add, List.getElem?_append_left hj]
      exact hv
    | succ k =>
      have hx : (hcs y).length = 2 := rfl
      rw [List.getElem?_append_right (by omega), hx, show (k + 1) * 2 + j - 2 = k * 2 + j by omega]
      exact ih (by simpa using hk)
theorem hls_set (l : List Ch) (k : Nat) (p : Int) (h : k < l.length) : (hls l).set (k * 2 + 1) (.int .i64 p) = hls (l.set k ⟨(l[k]'h).b, p⟩) := by
  induction l generalizing k with
  | nil => simp at h
  | cons y l ih =>
    cases k with
    | zero => rfl
    | succ k =>
      rw [hls_cons, List.set_cons_succ, hls_cons, show (k + 1) * 2 + 1 = k * 2 + 1 + 1 + 1 by omega]
      show .int .i64 y.b :: .int .i64 y.p :: (hls l).set (k * 2 + 1) _ = _
      rw [ih k (by simpa using h)]
      rfl
theorem ch_at {w : World} {B : Nat} {A : Option Addr} {l : List Ch} {k : Nat} {x : Ch} (h : Rd w B A (hls l)) (hk : l[k]? = some x) :
    ∃ ad, A = some ad ∧ ad.block < B ∧ w.cell? (ad.add (k * 2)) = some (.int .i64 x.b) ∧ w.cell? ⟨(ad.add (k * 2)).block, (ad.add (k * 2)).off + 1, none⟩ = some (.int .i64 x.p) := by
  obtain ⟨ad, rfl, hb, hc⟩ := h.at (hls_at hk (j := 0) (v := .int .i64 x.b) rfl)
  refine ⟨ad, rfl, hb, hc, ?_⟩
  have e : (⟨(ad.add (k * 2)).block, (ad.add (k * 2)).off + 1, none⟩ : Addr) = (ad.add (k * 2)).add 1 := by
    conv => rhs; unfold Addr.add
    rfl
  rw [e, addr_add_add]
  obtain ⟨ad2, e2, _, h2⟩ := h.at (hls_at hk (j := 1) (v := .int .i64 x.p) rfl)
  obtain rfl : ad = ad2 := by injection e2
  exact h2
theorem guard_ch : Try.prog.eqGuardType Try.prog.depth 44 = false := by kernel_rfl
theorem equal_ch (w : World) (a b c d : Int) : (Op.equalIn 10000 44 (.agg #[.int .i64 a, .int .i64 b]) (.agg #[.int .i64 c, .int .i64 d])).run Try.prog w = .ok (a == c && b == d) w := by
  rw [run_equalIn_agg _ _ _ _ _ (by kernel_rfl) (by kernel_rfl)]
  simp [go_sem, Try.underlying44, Try.underlying3]
  by_cases h1 : a = c <;> by_cases h2 : b = d <;> simp [h1, h2]
theorem neq_ch (w : World) (a b c d : Int) : (binOp .neq 44 (.agg #[.int .i64 a, .int .i64 b]) (.agg #[.int .i64 c, .int .i64 d])).run Try.prog w = .ok (.bool (!(a == c && b == d))) w := by
  rw [run_neq_struct, equal_ch]
  rfl
theorem eql_ch (w : World) (a b c d : Int) : (binOp .eql 44 (.agg #[.int .i64 a, .int .i64 b]) (.agg #[.int .i64 c, .int .i64 d])).run Try.prog w = .ok (.bool (a == c && b == d)) w := by
  rw [run_eql_struct, equal_ch]
  rfl
theorem elemC : Elem Try.prog 26 44 (.agg #[.int .i64 0, .int .i64 0]) 2 16 := .of Try.underlying26 (by kernel_rfl) rfl (by omega)
theorem zero_ch (w : World) : (zeroValue 44).run Try.prog w = .ok (.agg #[.int .i64 0, .int .i64 0]) w := (zero_of_info (P := Try.prog) (t := 44) (v := .agg #[.int .i64 0, .int .i64 0]) (n := 2) (by kernel_rfl)).1 w
theorem ch_size (x : Ch) : (Try.prog.info? 44).map (·.size) = some (hcs x).length := by
  show _ = some 2
  kernel_rfl
theorem Box.ch {w : World} {b : Nat} {T : TypeId} {x : Ch} (h : Box w b T (hcs x)) : w.cell? ⟨b, 0, none⟩ = some (.int .i64 x.b) ∧ w.cell? ⟨b, 1, none⟩ = some (.int .i64 x.p) := ⟨h.cell 0, h.cell 1⟩
theorem isnil_ch (w : World) (a : Option Addr) (n c : Nat) : (binOp .eql 26 (.slice a n c) (.slice none 0 0)).run Try.prog w = .ok (.bool a.isNone) w := Lib.run_eql_slice_nil w _ _ a n c 0 0 Try.underlying26

/-- a group, and where its changes lie -/
structure Gv where
  g : Gp
  A : Option Addr
  cap : Nat
abbrev Gv.v (x : Gv) : Value := .slice x.A x.g.ch.length x.cap
def gcs (x : Gv) : List Value := [.bool x.g.own, .int .i64 x.g.seq, x.v]
def gvs (l : List Gv) : List Value := l.flatMap gcs
theorem gvs_cons (x : Gv) (l : List Gv) : gvs (x :: l) = gcs x ++ gvs l := rfl
theorem gvs_append (l r : List Gv) : gvs (l ++ r) = gvs l ++ gvs r := by simp [gvs]
theorem gvs_single (x : Gv) : gvs [x] = gcs x := by simp [gvs]
theorem gvs_length (l : List Gv) : (gvs l).length = l.length * 3 := by
  induction l with
  | nil => rfl
  | cons x l ih =>
    rw [gvs_cons, List.length_append, ih]
    simp [gcs]
    omega
theorem gcs_one (x : Gv) : ∀ u ∈ gcs x, u.oneCell' = true := by
  intro u hu
  simp [gcs] at hu
  rcases hu with rfl | rfl | rfl <;> rfl
theorem gvs_one (l : List Gv) : ∀ u ∈ gvs l, u.oneCell' = true := by
  intro u hu
  obtain ⟨x, _, hu⟩ := List.mem_flatMap.1 hu
  exact gcs_one x u hu
theorem gvs_at {l : List Gv} {k j : Nat} {x : Gv} {v : Value} (hk : l[k]? = some x) (hv : (gcs x)[j]? = some v) : (gvs l)[k * 3 + j]? = some v := by
  induction l generalizing k with
  | nil => simp at hk
  | cons y l ih =>
    rw [gvs_cons]
    cases k with
    | zero =>
      obtain rfl : y = x := by simpa using hk
      have hj : j < (gcs y).length := (List.getElem?_eq_some_iff.1 hv).1
      rw [Nat.zero_mul, Nat.zero_add, List.getElem?_append_left hj]
      exact hv
    | succ k =>
      have hx : (gcs y).length = 3 := rfl
      rw [List.getElem?_append_right (by omega), hx, show (k + 1) * 3 + j - 3 = k * 3 + j by omega]
      exact ih (by simpa using hk)
theorem gvs_take (l : List Gv) (k : Nat) : gvs (l.take k) = (gvs l).take (k * 3) := by
  induction l generalizing k with
  | nil => simp [gvs]
  | cons x l ih =>
    cases k with
    | zero => simp [gvs]
    | succ k =>
      rw [List.take_succ_cons, gvs_cons, gvs_cons, ih, show (k + 1) * 3 = k * 3 + 1 + 1 + 1 by omega]
      rfl
theorem gvs_drop (l : List Gv) (k : Nat) : gvs (l.drop k) = (gvs l).drop (k * 3) := by
  induction l generalizing k with
  | nil => simp [gvs]
  | cons x l ih =>
    cases k with
    | zero => simp [gvs]
    | succ k =>
      rw [List.drop_succ_cons, gvs_cons, ih, show (k + 1) * 3 = k * 3 + 1 + 1 + 1 by omega]
      rfl
theorem gv_at {w : World} {B : Nat} {A : Option Addr} {l : List Gv} {k : Nat} {x : Gv} (h : Rd w B A (gvs l)) (hk : l[k]? = some x) :
    ∃ ad, A = some ad ∧ ad.block < B ∧ w.cell? (ad.add (k * 3)) = some (.bool x.g.own) ∧ w.cell? ⟨(ad.add (k * 3)).block, (ad.add (k * 3)).off + 1, none⟩ = some (.int .i64 x.g.seq) ∧ w.cell? ⟨(ad.add (k * 3)).block, (ad.add (k * 3)).off + 2, none⟩ = some x.v := by
  obtain ⟨ad, rfl, hb, hc⟩ := h.at (gvs_at hk (j := 0) (v := .bool x.g.own) rfl)
  have e : ∀ (a : Addr) (j : Nat), j ≠ 0 → (⟨a.block, a.off + j, none⟩ : Addr) = a.add j := by
    intro a j hj
    unfold Addr.add
    rw [if_neg hj]
  refine ⟨ad, rfl, hb, hc, ?_, ?_⟩
  · rw [e _ 1 (by decide), addr_add_add]
    obtain ⟨ad2, e2, _, h2⟩ := h.at (gvs_at hk (j := 1) (v := .int .i64 x.g.seq) rfl)
    obtain rfl : ad = ad2 := by injection e2
    exact h2
  · rw [e _ 2 (by decide), addr_add_add]
    obtain ⟨ad2, e2, _, h2⟩ := h.at (gvs_at hk (j := 2) (v := x.v) rfl)
    obtain rfl : ad = ad2 := by injection e2
    exact h2
theorem elemG : Elem Try.prog 23 28 (.agg #[.bool false, .int .i64 0, .slice none 0 0]) 3 40 := .of Try.underlying23 (by kernel_rfl) rfl (by omega)

theorem gv_size (x : Gv) : (Try.prog.info? 28).map (·.size) = some (gcs x).length := by
  show _ = some 3
  kernel_rfl
abbrev gz : Gv := ⟨⟨false, 0, []⟩, none, 0⟩
theorem gv_box {w : World} {b : Nat} {x : Gv} {T : TypeId} (h : Box w b T (gcs x)) : w.cell? ⟨b, 0, none⟩ = some (.bool x.g.own) ∧ w.cell? ⟨b, 1, none⟩ = some (.int .i64 x.g.seq) ∧ w.cell? ⟨b, 2, none⟩ = some x.v := ⟨h.cell 0, h.cell 1, h.cell 2⟩
theorem types_box {w : World} {base n s b : Nat} {V : Value} {xs cs : List Value} (h : Box w b 28 cs) (h' : w.ownsRow base 44 s V n xs) : V.ownBlock ≠ some b := fun hb => h.ne_row h' hb (by decide) rfl
/-- groups that can be read: their row, and the rows of their changes -/
def GRd (w : World) (B : Nat) (A : Option Addr) (l : List Gv) : Prop := Rd w B A (gvs l) ∧ ∀ x ∈ l, Rd w B x.A (hls x.g.ch)
section
variable {w w' : World} {B B' : Nat} {A : Option Addr} {l : List Gv}
theorem GRd.below (h : GRd w B A l) (hb : Below B w w') : GRd w' B A l := ⟨h.1.below hb, fun x hx => (h.2 x hx).below hb⟩
theorem GRd.more (h : GRd w B A l) (hB : B ≤ B') : GRd w B' A l := ⟨h.1.more hB, fun x hx => (h.2 x hx).more hB⟩
theorem GRd.drewN (h : GRd w B A l) (n : Nat) : GRd (w.drewN n) B A l := h
theorem GRd.on (h : GRd w w.heap.size A l) (hb : Below w.heap.size w w') : GRd w' w'.heap.size A l := (h.below hb).more hb.size
theorem GRd.front (h : GRd w B A l) (k : Nat) : GRd w B A (l.take k) := ⟨by rw [gvs_take]; exact h.1.front, fun x hx => h.2 x (List.mem_of_mem_take hx)⟩
theorem GRd.back {ad : Addr} (h : GRd w B (some ad) l) (k : Nat) : GRd w B (some (ad.add (k * 3))) (l.drop k) := ⟨by rw [gvs_drop]; exact h.1.tail, fun x hx => h.2 x (List.mem_of_mem_drop hx)⟩
theorem GRd.nil : GRd w B A [] := ⟨Rd.empty, by simp⟩
end
/-- groups that the call made: the row, the rows of the changes, all apart from one another -/
structure GOwn (w : World) (base : Nat) (V : Value) (l : List Gv) : Prop where
  row : w.ownsRow base 28 3 V l.length (gvs l)
  each : ∀ x ∈ l, w.ownsRow base 44 2 x.v x.g.ch.length (hls x.g.ch)
  apart : l.Pairwise fun x y => ∀ b, x.v.ownBlock = some b → y.v.ownBlock ≠ some b
theorem types_apart {w : World} {base base' n n' s s' : Nat} {V V' : Value} {xs xs' : List Value} (h : w.ownsRow base 28 s V n xs) (h' : w.ownsRow base' 44 s' V' n' xs') : ∀ b, V.ownBlock = some b → V'.ownBlock ≠ some b := by
  intro b hb hb'
  obtain ⟨_, cur, h1⟩ := own_type h hb
  obtain ⟨_, cur', h2⟩ := own_type h' hb'
  rw [h1] at h2
  injection h2 with h2
  injection h2 with _ h2
  revert h2
  decide
theorem row_kept {w w' : World} {base s n : Nat} {e : TypeId} {V : Value} {xs : List Value} {r : Option Nat} (h : w.ownsRow base e s V n xs) (hg : w.grownBy w' r) (hn : ∀ b, V.ownBlock = some b → r ≠ some b) : w'.ownsRow base e s V n xs := by
  refine h.kept hg ?_
  cases hv : V.ownBlock with
  | none => exact .inl rfl
  | some b => exact .inr fun e => hn b hv e.symm
section
variable {w w' : World} {base : Nat} {V : Value} {l : List Gv}
theorem GOwn.nil (w : World) (base : Nat) : GOwn w base (.slice none 0 0) [] := ⟨World.ownsRow_nil _ _ _ _, by simp, List.Pairwise.nil⟩
theorem GOwn.on (h : GOwn w base V l) (hb : Below w.heap.size w w') : GOwn w' base V l := ⟨own_below h.row hb, fun x hx => own_below (h.each x hx) hb, h.apart⟩
theorem GOwn.rd {A : Option Addr} {n c : Nat} (h : GOwn w base (.slice A n c) l) : GRd w w.heap.size A l := by
  obtain ⟨hr, he, _⟩ := h
  refine ⟨?_, fun x hx => Rd.own (he x hx)⟩
  rcases hr.2 with ⟨e1, h0⟩ | ⟨g, cap, cur, e1, _⟩
  · obtain rfl : l = [] := List.eq_nil_of_length_eq_zero h0
    exact Rd.empty
  · injection e1 with e1 e2 e3
    subst e1 e2 e3
    exact Rd.own hr
/-- a store into rows apart -/
theorem GOwn.beside {r : Option Nat} (h : GOwn w base V l) (hg : w.grownBy w' r) (h0 : ∀ b, V.ownBlock = some b → r ≠ some b) (h1 : ∀ x ∈ l, ∀ b, x.v.ownBlock = some b → r ≠ some b) : GOwn w' base V l :=
  ⟨row_kept h.row hg h0, fun x hx => row_kept (h.each x hx) hg (h1 x hx), h.apart⟩
/-- one group more -/
theorem GOwn.more {V' : Value} {x : Gv} (h : GOwn w base V l) (hg : w.grownBy w' V.ownBlock) (hx : w.ownsRow base 44 2 x.v x.g.ch.length (hls x.g.ch)) (ha : ∀ y ∈ l, ∀ b, y.v.ownBlock = some b → x.v.ownBlock ≠ some b)
    (hr : w'.ownsRow base 28 3 V' (l.length + 1) (gvs l ++ gcs x)) : GOwn w' base V' (l ++ [x]) := by
  refine ⟨by rw [List.length_append, gvs_append, gvs_single]; exact hr, fun y hy => ?_, ?_⟩
  · rcases List.mem_append.1 hy with hy | hy
    · exact row_kept (h.each y hy) hg fun b hb e => types_apart h.row (h.each y hy) b e hb
    · obtain rfl := List.mem_singleton.1 hy
      exact row_kept hx hg fun b hb e => types_apart h.row hx b e hb
  · rw [List.pairwise_append]
    refine ⟨h.apart, List.pairwise_singleton _ _, fun y hy z hz => ?_⟩
    obtain rfl := List.mem_singleton.1 hz
    exact ha y hy
end
section
variable {P : Program} (w : World)
/-- append of one element of many cells, the row's block told -/
theorem wpList_append_tell {ops : Array Oper} {rest : List Oper} {o : Oper} {a : Act} {Q : Exit → Act → World → Prop} (hgd : o.guard = none) (s x : Operand) (t : TypeId)
    (ho : o.op = .call { callee := .builtin .append, args := #[s, x], argTypes := #[t, t] })
    (base : Nat) (e : TypeId) (z : Value) (size bytes : Nat) (he : Elem P t e z size bytes)
    (v : Value) (n : Nat) (xs : List Value) (hs : a.eval s = v) (us : List Value) (hx : a.eval x = .slice (some ⟨w.heap.size, 0, none⟩) 1 1) (hown : w.ownsRow base e size v n xs) (hus : us.length = size) (h1 : ∀ u ∈ us, u.oneCell' = true)
    (h63 : n + 1 ≤ maxLen) (hbytes : (n + 1) * bytes ≤ 140737488355328) (hbase : base ≤ w.heap.size)
    (h : ∀ v' w', w'.ownsRow base e size v' (n + 1) (xs ++ us) → w.grownBy w' v.ownBlock → (∀ b, b < w.heap.size → v.ownBlock ≠ some b → v'.ownBlock ≠ some b) → wpList P ops Q rest (a.put o.dst v') w') : wpList P ops Q (o :: rest) a (w.alloc (.cells us.toArray e)) := by
  refine wpList_append_rd _ hgd s x t ho base e z size bytes he v n xs hs (hown.alloc _) _ _ 1 1 us hx (by omega) (rd_new w us e (0, 0)) h1 h63 hbytes (by simp; omega) ?_
  intro v' w' h2 h3 h4
  refine h v' w' h2 ((World.grownBy_alloc w _ _).trans h3) fun b hb hne he => ?_
  rcases h4 with h4 | h4
  · exact hne (h4.symm.trans he)
  · rw [h4] at he
    injection he with he
    simp at he
    omega
/-- one element of many cells in a block of its own -/
theorem wpList_slice_one {ops : Array Oper} {rest : List Oper} {o : Oper} {a : Act} {Q : Exit → Act → World → Prop} (hgd : o.guard = none) (t e : TypeId) (x : Operand) (ho : o.op = .buildSlice t 1 #[(0, x)]) (z : Value) (size bytes : Nat) (he : Elem P t e z size bytes) (hs : size ≤ 1000) (L : List Value) (hL : L.length = size) (hx : a.eval x = .agg L.toArray)
    (h : wpList P ops Q rest (a.put o.dst (.slice (some ⟨w.heap.size, 0, none⟩) 1 1)) (w.alloc (.cells L.toArray e))) : wpList P ops Q (o :: rest) a w := by
  refine wpList_plain hgd fun K hK => ?_
  have hr := run_buildSlice_one (P := P) w he hs L hL
  unfold Oper.wp
  simp [execOp, ho, hx, hr, Result.andThen]
  exact hK _ _ h
theorem wpList_store_var {ops : Array Oper} {rest : List Oper} {o : Oper} {a : Act} {Q : Exit → Act → World → Prop} (hgd : o.guard = none) (t : TypeId) (x y : Operand) (ho : o.op = .store t x y) (g : Nat) (cs old : List Value) (hsz : (P.info? t).map (·.size) = some cs.length) (hold : old.length = cs.length)
    (h1 : ∀ u ∈ cs, u.oneCell' = true) (hx : a.eval x = .pointer (some ⟨g, 0, none⟩)) (hy : a.eval y = .agg cs.toArray) (hb : Box w g t old)
    (h : ∀ w', Box w' g t cs → w.grownBy w' (some g) → wpList P ops Q rest (a.put o.dst undef) w') : wpList P ops Q (o :: rest) a w :=
  wpList_store_box w hgd t x y ho g cs old hsz hold h1 hx hy hb (h _ (setRow_heap w g _ _ _ _ hb) ⟨rfl, rfl, rfl, by simp [World.setRow], fun k _ hk => setRow_other w g k _ (by intro e; exact hk (by rw [e]))⟩)
/-- a value is laid into its variable, at a step of a region that draws its order -/
theorem step_store_box {ops : Array Oper} {o : Oper} {a : Act} {K : Act → World → Prop} {Q : Exit → Act → World → Prop} {E : Prop} (hgd : o.guard = none) (t : TypeId) (x y : Operand) (ho : o.op = .store t x y) (g : Nat) (cs old : List Value) (hsz : (P.info? t).map (·.size) = some cs.length) (hold : old.length = cs.length)
    (h1 : ∀ u ∈ cs, u.oneCell' = true) (hx : a.eval x = .pointer (some ⟨g, 0, none⟩)) (hy : a.eval y = .agg cs.toArray) (hb : Box w g t old) (h : ∀ w', Box w' g t cs → w.grownBy w' (some g) → K (a.put o.dst undef) w') :
    if Region.wanted o (yielded ops a.tmps) = true then Oper.wp P o a w K Q else E := by
  have hw : Region.wanted o (yielded ops a.tmps) = true := by simp [Region.wanted, hgd]
  rw [if_pos hw]
  have hrun := run_storeVar_row (P := P) w g t t old.toArray cs.toArray hb (by simpa using hsz) (by simp [hold]) (all_oneCell_toArray h1)
  have hK := h (w.setRow g cs.toArray) (setRow_heap w g _ _ _ _ hb) ⟨rfl, rfl, rfl, by simp [World.setRow], fun k _ hk => setRow_other w g k _ (by intro e; exact hk (by rw [e]))⟩
  unfold Oper.wp execOp
  simp only [ho, hx, hy, Instr.storeAt, Instr.sureAddr, Sem.run_bind, Sem.run_pure, Result.andThen_ok, hrun]
  exact hK
/-- 'clear' of a row of the call's own, of elements of whatever size -/
theorem wpList_clear_row {ops : Array Oper} {rest : List Oper} {o : Oper} {a : Act} {Q : Exit → Act → World → Prop} (hgd : o.guard = none) (x : Operand) (t e : TypeId) (ho : o.op = .call { callee := .builtin .clear, args := #[x], argTypes := #[t] })
    (ht : P.underlying t = some (.slice e)) (z : Value) (hz : ∀ w, (zeroValue e).run P w = .ok z w) (size : Nat) (hzs : z.cells.size = size) (hs0 : 0 < size) (hz1 : ∀ u ∈ z.cells.toList, u.oneCell' = true) (base n c : Nat) (A : Option Addr) (xs : List Value) (hx : a.eval x = .slice A n c)
    (hown : w.ownsRow base e size (.slice A n c) n xs)
    (h : ∀ w', w'.ownsRow base e size (.slice A 0 c) 0 [] → w.grownBy w' (Value.slice A n c).ownBlock → wpList P ops Q rest (a.put o.dst (.tuple #[])) w') : wpList P ops Q (o :: rest) a w := by
  refine wpList_plain hgd fun K hK => ?_
  have hrun : ∃ w', (Builtin.clear_ #[t] o.type #[.slice A n c]).run P w = .ok (.tuple #[]) w' ∧ w'.ownsRow base e size (.slice A 0 c) 0 [] ∧ w.grownBy w' (Value.slice A n c).ownBlock := by
    rcases hown.2 with ⟨hv, h0⟩ | ⟨g, cap, cur, hv, hgb, hheap, hnc, hcm, hcs, htk⟩
    · injection hv with a b c'
      subst a b c'
      exact ⟨w, by simp [Builtin.clear_, run_underlying ht], World.ownsRow_nil _ _ _ _, World.grownBy.refl w _⟩
    · injection hv with a b c'
      subst a c'
      rcases Nat.eq_zero_or_pos n with h0 | h0
      · subst h0
        exact ⟨w, by simp [Builtin.clear_, run_underlying ht], ⟨by simp, .inr ⟨g, c, cur, rfl, hgb, hheap, by omega, hcm, hcs, by simp⟩⟩, World.grownBy.refl w _⟩
      · have hzl : (Builtin.zeroCells z.cells n).toList.length = n * size := by simp [Builtin.zeroCells, hzs]
        have hz2 : ∀ u ∈ (Builtin.zeroCells z.cells n).toList, u.oneCell' = true := by
          intro u hu
          simp only [Builtin.zeroCells, Array.toList_map, List.mem_map] at hu
          obtain ⟨i, _, rfl⟩ := hu
          have hi : i % z.cells.size < z.cells.size := Nat.mod_lt _ (by omega)
          rw [getElem!_pos z.cells _ hi]
          exact hz1 _ (by simp)
        have hst := run_storeCells_at (P := P) g 0 e (Builtin.zeroCells z.cells n).toList 0 cur w hheap (by rw [hzl, hcs]; simpa using Nat.mul_le_mul_right size hnc) hz2
        obtain ⟨m, rfl⟩ : ∃ m, n = m + 1 := ⟨n - 1, by omega⟩
        refine ⟨_, by simp [Builtin.clear_, run_underlying ht, hz, hst]; rfl, ?_, ?_⟩
        · refine ⟨by simp, .inr ⟨g, c, _, rfl, hgb, setRow_heap w g _ _ _ _ hheap, by omega, hcm, ?_, by simp⟩⟩
          have hmul := Nat.mul_le_mul_right size hnc
          rw [Array.length_toList] at hzl
          simp only [List.size_toArray, List.length_append, List.length_drop, Array.length_toList, hzl, hcs]
          omega
        · exact ⟨rfl, rfl, rfl, by simp [World.setRow], fun k _ hk => setRow_other w g k _ (by intro e; exact hk (by rw [e]; rfl))⟩
  obtain ⟨w', hr, h1, h2⟩ := hrun
  unfold Oper.wp execOp
  simp only [ho, resolve, invoke, builtin, Sem.run_bind, Sem.run_pure, Result.andThen_ok, List.map_toArray, List.map_cons, List.map_nil, hx, hr]
  exact hK _ _ (h w' h1 h2)
end
end Go.Proofs.Ytkbgogofedppgaa

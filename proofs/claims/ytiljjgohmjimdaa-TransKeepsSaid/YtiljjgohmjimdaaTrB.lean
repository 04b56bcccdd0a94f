/-
  Transactions in memory: a write's cells, lists of writes, writes compared; transactions, whose writes lie in rows of their own; ledgers.
-/
import Derived.Test.YtiljjgohmjimdaaTrM
import Derived.Test.YtiljjgohmjimdaaStoV
import Derived.Test.YtiljjgohmjimdaaFill
import Derived.Test.YtiljjgohmjimdaaBytes
import Derived.Test.YtiljjgohmjimdaaOpen
import Derived.Laws.StructEq
namespace Go.Proofs.Ytiljjgohmjimdaa
open Go.RowKit Word Tran
set_option linter.unusedVariables false

/-- as it must be -/
def Tran.WIn (o : Wt) : Prop := o.data.length = 32
theorem wt0_in : WIn wt0 := by simp [WIn]
def twc (o : Wt) : List Value := .int .i64 o.b :: .bool o.tr :: bs o.data
theorem twc_len {o : Wt} (h : WIn o) : (twc o).length = 34 := by simp [twc, bs_length, show o.data.length = 32 from h]
theorem twc_one (o : Wt) : ∀ u ∈ twc o, u.oneCell' = true := by
  intro u hu
  rcases List.mem_cons.1 hu with rfl | hu
  · rfl
  · rcases List.mem_cons.1 hu with rfl | hu
    · rfl
    · exact bs_one _ u hu
theorem twc_inj {a b : Wt} (h : twc a = twc b) : a = b := by
  unfold twc at h
  injection h with h0 h
  injection h with h1 h
  have h2 := bs_inj h
  injection h0 with _ h0
  injection h1 with h1
  cases a; cases b; simp_all
def tws (l : List Wt) : List Value := l.flatMap twc
theorem tws_cons (x : Wt) (l : List Wt) : tws (x :: l) = twc x ++ tws l := rfl
theorem tws_append (l m : List Wt) : tws (l ++ m) = tws l ++ tws m := by simp [tws]
theorem tws_single (o : Wt) : tws [o] = twc o := by simp [tws]
theorem tws_length : ∀ {l : List Wt}, (∀ o ∈ l, WIn o) → (tws l).length = l.length * 34
  | [], _ => rfl
  | o :: l, h => by
    have h1 := twc_len (h o List.mem_cons_self)
    have h2 := tws_length fun g hg => h g (List.mem_cons_of_mem _ hg)
    rw [tws_cons, List.length_append, h1, h2, List.length_cons]
    omega
theorem tws_one (l : List Wt) : ∀ u ∈ tws l, u.oneCell' = true := by
  intro u hu
  obtain ⟨f, _, h⟩ := List.mem_flatMap.1 hu
  exact twc_one f u h
theorem tws_at : ∀ {l : List Wt} {k j : Nat} {o : Wt} {v : Value}, (∀ o ∈ l, WIn o) → l[k]? = some o → (twc o)[j]? = some v → (tws l)[k * 34 + j]? = some v
  | [], k, j, o, v, _, h, _ => by simp at h
  | g :: l, 0, j, o, v, hin, h, hv => by
    obtain rfl : g = o := by simpa using h
    have hj : j < (twc g).length := (List.getElem?_eq_some_iff.1 hv).1
    rw [tws_cons, Nat.zero_mul, Nat.zero_add, List.getElem?_append_left hj]
    exact hv
  | g :: l, k + 1, j, o, v, hin, h, hv => by
    have h1 := twc_len (hin g List.mem_cons_self)
    have := tws_at (l := l) (k := k) (j := j) (fun g hg => hin g (List.mem_cons_of_mem _ hg)) (by simpa using h) hv
    rw [tws_cons, List.getElem?_append_right (by omega), h1, show (k + 1) * 34 + j - 34 = k * 34 + j by omega]
    exact this
theorem tws_front {l : List Wt} (k : Nat) {w : World} {B : Nat} {A : Option Addr} (h : Rd w B A (tws l)) : Rd w B A (tws (l.take k)) := by
  have e : tws l = tws (l.take k) ++ tws (l.drop k) := by rw [← tws_append, List.take_append_drop]
  have h2 : tws (l.take k) = (tws l).take (tws (l.take k)).length := by rw [e, List.take_left]
  rw [h2]
  exact h.front
section
variable {w : World} {B k m : Nat} {A : Option Addr} {ad : Addr} {l : List Wt} {o : Wt}
theorem wt_cell (h : Rd w B (some ad) (tws l)) (hin : ∀ o ∈ l, WIn o) (hk : l[k]? = some o) : ∀ j v, (twc o)[j]? = some v → w.cell? ((ad.add (k * 34)).add j) = some v := fun j v hv => by
  rw [addr_add_add]
  obtain ⟨ad2, e, _, hc⟩ := h.at (tws_at hin hk hv)
  obtain rfl : ad = ad2 := by injection e
  exact hc
theorem wt_some (h : Rd w B A (tws l)) (hin : ∀ o ∈ l, WIn o) (hk : l[k]? = some o) : ∃ ad, A = some ad ∧ ad.block < B := by
  obtain ⟨ad, e, hb, _⟩ := h.at (tws_at hin hk (j := 0) (v := .int .i64 o.b) rfl)
  exact ⟨ad, e, hb⟩
theorem wt_load (hr : Rd w B A (tws l)) (hin : ∀ o ∈ l, WIn o) (hk : l[k]? = some o) (hm : m = 34) :
    ∃ ad, A = some ad ∧ (loadCellsFrom (ad.add (k * m)) 0 m #[]).run Try.prog w = .ok (twc o).toArray w ∧ ad.block < B := by
  obtain ⟨ad, rfl, hb⟩ := wt_some hr hin hk
  have hc := wt_cell hr hin hk
  subst hm
  exact ⟨ad, rfl, big_load Try.prog _ (twc o) 34 (twc_len (hin o (List.mem_of_getElem? hk))) w hc, hb⟩
theorem wt_b (hr : Rd w B A (tws l)) (hin : ∀ o ∈ l, WIn o) (hk : l[k]? = some o) (hm : m = 34) : ∃ ad, A = some ad ∧ ad.block < B ∧ w.cell? (ad.add (k * m)) = some (.int .i64 o.b) := by
  subst hm
  obtain ⟨ad, rfl, hb, hc⟩ := hr.at (tws_at hin hk (j := 0) (v := .int .i64 o.b) rfl)
  exact ⟨ad, rfl, hb, hc⟩
end
section
variable {w : World} {b m : Nat} {T : TypeId} {o : Wt}
theorem Box.wt (h : Box w b T (twc o)) : w.cell? ⟨b, 0, none⟩ = some (.int .i64 o.b) ∧ w.cell? ⟨b, 1, none⟩ = some (.bool o.tr) := ⟨h.cell 0, h.cell 1⟩
theorem Box.wtAll (h : Box w b T (twc o)) (hi : WIn o) (hm : m = 34) : (loadCellsFrom ⟨b, 0, none⟩ 0 m #[]).run Try.prog w = .ok (twc o).toArray w :=
  big_load0 Try.prog b 0 (twc o) m (by rw [twc_len hi, hm]) w h.range0
end
theorem zero_wt (w : World) : (zeroValue 49).run Try.prog w = .ok (.agg (twc wt0).toArray) w :=
  (zero_of_info (P := Try.prog) (t := 49) (v := .agg (twc wt0).toArray) (n := 34) (by kernel_rfl)).1 w
theorem wt_size {o : Wt} (h : WIn o) : (Try.prog.info? 49).map (·.size) = some (twc o).length := by rw [twc_len h]; kernel_rfl
theorem elemW : Elem Try.prog 25 49 (.agg (twc wt0).toArray) 34 48 := Elem.of Try.underlying25 (by kernel_rfl) rfl (by decide)
theorem guard_wt : Try.prog.eqGuardType Try.prog.depth 49 = false := by kernel_rfl
section
variable {w : World} {ops : Array Oper} {rest : List Oper} {o : Oper} {a : Act} {Q : Exit → Act → World → Prop}
theorem wpList_wt_alloc (hgd : o.guard = none) (ho : o.op = .alloc 49)
    (h : ∀ w', Box w' w.heap.size 49 (twc wt0) → Below w.heap.size w w' → w'.heap.size = w.heap.size + 1 → wpList Try.prog ops Q rest (a.put o.dst (.pointer (some ⟨w.heap.size, 0, none⟩))) w') : wpList Try.prog ops Q (o :: rest) a w :=
  wpList_alloc_box w hgd _ ho (twc wt0) zero_wt h
theorem wpList_wt_store (hgd : o.guard = none) (x y : Operand) (ho : o.op = .store 49 x y) (g : Nat) (r old : Wt) (hr : WIn r) (hold : WIn old) (hx : a.eval x = .pointer (some ⟨g, 0, none⟩)) (hy : a.eval y = .agg (twc r).toArray) (hb : Box w g 49 (twc old))
    (h : ∀ w', Box w' g 49 (twc r) → w.grownBy w' (some g) → w'.heap.size = w.heap.size → wpList Try.prog ops Q rest (a.put o.dst undef) w') : wpList Try.prog ops Q (o :: rest) a w :=
  wpList_store_box w hgd _ x y ho g (twc r) (twc old) (wt_size hr) (by rw [twc_len hr, twc_len hold]) (twc_one r) hx hy hb
    (h _ (setRow_heap w g _ _ _ _ hb) ⟨rfl, rfl, rfl, by simp [World.setRow], fun k _ hk => setRow_other w g k _ (by intro e; exact hk (by rw [e]))⟩ (by simp [World.setRow]))
theorem wpList_wt_box (hgd : o.guard = none) (x : Operand) (ho : o.op = .box 49 x) (r : Wt) (hx : a.eval x = .agg (twc r).toArray)
    (h : ∀ w', Box w' w.heap.size 49 (twc r) → Below w.heap.size w w' → w'.heap.size = w.heap.size + 1 → wpList Try.prog ops Q rest (a.put o.dst (.pointer (some ⟨w.heap.size, 0, none⟩))) w') : wpList Try.prog ops Q (o :: rest) a w :=
  wpList_box_box w hgd _ x ho (twc r) hx h
end

/-! two of them are compared -/
theorem wsize_u8 (w : World) : (sizeOf 5).run Try.prog w = .ok 1 w := by go_simp
theorem part_wdata (a : Wt) (ha : WIn a) (w : World) : (part 47 (twc a).toArray 2).run Try.prog w = .ok (.agg (bs a.data).toArray) w := by
  obtain ⟨m, hm, hsz⟩ := big_size (P := Try.prog) (t := 47) (s := 32) (by kernel_rfl)
  have e : List.take m (List.drop 2 (twc a)) = bs a.data := by
    show List.take m (bs a.data) = bs a.data
    exact List.take_of_length_le (by rw [bs_length, ha, hm]; decide)
  simp [part, isAgg, run_underlying Try.underlying47, hsz, e]
def wtEq (a b : Wt) : Bool := a.b == b.b && (a.tr == b.tr && a.data == b.data)
theorem wtEq_iff (a b : Wt) : wtEq a b = true ↔ a = b := by
  unfold wtEq
  cases a; cases b; simp
theorem equal_wt (w : World) (a b : Wt) (ha : WIn a) (hb : WIn b) : (Op.equalIn 10000 49 (.agg (twc a).toArray) (.agg (twc b).toArray)).run Try.prog w = .ok (wtEq a b) w := by
  have hD : ∀ w', (Op.equalIn 9999 47 (.agg (bs a.data).toArray) (.agg (bs b.data).toArray)).run Try.prog w' = .ok (a.data == b.data) w' := fun w' => big_equal (P := Try.prog) w' 9997 47 _ 32 .u8 Try.underlying47 Try.underlying5 wsize_u8 a.data b.data ha hb
  have pa := fun w' => part_wdata a ha w'
  have pb := fun w' => part_wdata b hb w'
  have hI : ∀ (r : Wt) (w' : World), (part 3 (twc r).toArray 0).run Try.prog w' = .ok (.int .i64 r.b) w' := fun r w' => by
    simp [part, isAgg, run_underlying Try.underlying3, twc]
  have hH : ∀ (r : Wt) (w' : World), (part 4 (twc r).toArray 1).run Try.prog w' = .ok (.bool r.tr) w' := fun r w' => by
    simp [part, isAgg, run_underlying Try.underlying4, twc]
  have a0 := fun w' => hI a w'
  have b0 := fun w' => hI b w'
  have a1 := fun w' => hH a w'
  have b1 := fun w' => hH b w'
  rw [run_equalIn_agg _ _ _ _ _ (by kernel_rfl) (by kernel_rfl)]
  have hi := fun (x y : Int) (w' : World) => run_equalIn_int (P := Try.prog) w' 9998 3 .i64 .i64 x y Try.underlying3
  have hh := fun (x y : Bool) (w' : World) => run_equalIn_bool (P := Try.prog) w' 9998 4 x y Try.underlying4
  clear hI hH
  unfold wtEq
  generalize twc a = ca at *
  generalize twc b = cb at *
  simp only [Op.eqFields, Program.fieldsOf, Try.underlying49]
  simp [a0, b0, a1, b1, pa, pb, hD, hi, hh]
  by_cases h0 : a.b = b.b <;> by_cases h1 : a.tr = b.tr <;> by_cases h2 : a.data = b.data <;> simp [h0, h1, h2]
theorem eql_wt (w : World) (a b : Wt) (ha : WIn a) (hb : WIn b) : (binOp .eql 49 (.agg (twc a).toArray) (.agg (twc b).toArray)).run Try.prog w = .ok (.bool (wtEq a b)) w := by
  rw [run_eql_struct, equal_wt w a b ha hb]
  rfl
theorem neq_wt (w : World) (a b : Wt) (ha : WIn a) (hb : WIn b) : (binOp .neq 49 (.agg (twc a).toArray) (.agg (twc b).toArray)).run Try.prog w = .ok (.bool (!wtEq a b)) w := by
  rw [run_neq_struct, equal_wt w a b ha hb]
  rfl

/-! transactions -/
/-- a transaction, and where its writes lie -/
structure Tv where
  t : Tn
  A : Option Addr
  cap : Nat
abbrev Tv.v (x : Tv) : Value := .slice x.A x.t.ws.length x.cap
def tnc (x : Tv) : List Value := [.int .i64 x.t.id, .int .i64 x.t.bg, x.v]
def tns (l : List Tv) : List Value := l.flatMap tnc
theorem tns_cons (x : Tv) (l : List Tv) : tns (x :: l) = tnc x ++ tns l := rfl
theorem tns_append (l r : List Tv) : tns (l ++ r) = tns l ++ tns r := by simp [tns]
theorem tns_single (x : Tv) : tns [x] = tnc x := by simp [tns]
theorem tns_length (l : List Tv) : (tns l).length = l.length * 3 := by
  induction l with
  | nil => rfl
  | cons x l ih =>
    rw [tns_cons, List.length_append, ih]
    simp [tnc]
    omega
theorem tnc_one (x : Tv) : ∀ u ∈ tnc x, u.oneCell' = true := by
  intro u hu
  simp [tnc] at hu
  rcases hu with rfl | rfl | rfl <;> rfl
theorem tns_one (l : List Tv) : ∀ u ∈ tns l, u.oneCell' = true := by
  intro u hu
  obtain ⟨x, _, hu⟩ := List.mem_flatMap.1 hu
  exact tnc_one x u hu
theorem tns_at {l : List Tv} {k j : Nat} {x : Tv} {v : Value} (hk : l[k]? = some x) (hv : (tnc x)[j]? = some v) : (tns l)[k * 3 + j]? = some v := by
  induction l generalizing k with
  | nil => simp at hk
  | cons y l ih =>
    rw [tns_cons]
    cases k with
    | zero =>
      obtain rfl : y = x := by simpa using hk
      have hj : j < (tnc y).length := (List.getElem?_eq_some_iff.1 hv).1
      rw [Nat.zero_mul, Nat.zero_add, List.getElem?_append_left hj]
      exact hv
    | succ k =>
      have hx : (tnc y).length = 3 := rfl
      rw [List.getElem?_append_right (by omega), hx, show (k + 1) * 3 + j - 3 = k * 3 + j by omega]
      exact ih (by simpa using hk)
theorem tns_take (l : List Tv) (k : Nat) : tns (l.take k) = (tns l).take (k * 3) := by
  induction l generalizing k with
  | nil => simp [tns]
  | cons x l ih =>
    cases k with
    | zero => simp [tns]
    | succ k =>
      rw [List.take_succ_cons, tns_cons, tns_cons, ih, show (k + 1) * 3 = k * 3 + 1 + 1 + 1 by omega]
      rfl
theorem tns_drop (l : List Tv) (k : Nat) : tns (l.drop k) = (tns l).drop (k * 3) := by
  induction l generalizing k with
  | nil => simp [tns]
  | cons x l ih =>
    cases k with
    | zero => simp [tns]
    | succ k =>
      rw [List.drop_succ_cons, tns_cons, ih, show (k + 1) * 3 = k * 3 + 1 + 1 + 1 by omega]
      rfl
theorem tn_at {w : World} {B : Nat} {A : Option Addr} {l : List Tv} {k : Nat} {x : Tv} (h : Rd w B A (tns l)) (hk : l[k]? = some x) :
    ∃ ad, A = some ad ∧ ad.block < B ∧ w.cell? (ad.add (k * 3)) = some (.int .i64 x.t.id) ∧ w.cell? ⟨(ad.add (k * 3)).block, (ad.add (k * 3)).off + 1, none⟩ = some (.int .i64 x.t.bg) ∧ w.cell? ⟨(ad.add (k * 3)).block, (ad.add (k * 3)).off + 2, none⟩ = some (.slice x.A x.t.ws.length x.cap) := by
  obtain ⟨ad, rfl, hb, hc⟩ := h.at (tns_at hk (j := 0) (v := .int .i64 x.t.id) rfl)
  have e : ∀ (a : Addr) (j : Nat), j ≠ 0 → (⟨a.block, a.off + j, none⟩ : Addr) = a.add j := by
    intro a j hj
    unfold Addr.add
    rw [if_neg hj]
  refine ⟨ad, rfl, hb, hc, ?_, ?_⟩
  · rw [e _ 1 (by decide), addr_add_add]
    obtain ⟨ad2, e2, _, h2⟩ := h.at (tns_at hk (j := 1) (v := .int .i64 x.t.bg) rfl)
    obtain rfl : ad = ad2 := by injection e2
    exact h2
  · rw [e _ 2 (by decide), addr_add_add]
    obtain ⟨ad2, e2, _, h2⟩ := h.at (tns_at hk (j := 2) (v := x.v) rfl)
    obtain rfl : ad = ad2 := by injection e2
    exact h2
theorem elemT : Elem Try.prog 22 27 (.agg #[.int .i64 0, .int .i64 0, .slice none 0 0]) 3 40 := .of Try.underlying22 (by kernel_rfl) rfl (by omega)

theorem tn_size (x : Tv) : (Try.prog.info? 27).map (·.size) = some (tnc x).length := by
  show _ = some 3
  kernel_rfl
abbrev tz : Tv := ⟨tn0, none, 0⟩
theorem tn_box {w : World} {b : Nat} {x : Tv} {T : TypeId} (h : Box w b T (tnc x)) : w.cell? ⟨b, 0, none⟩ = some (.int .i64 x.t.id) ∧ w.cell? ⟨b, 1, none⟩ = some (.int .i64 x.t.bg) ∧ w.cell? ⟨b, 2, none⟩ = some (.slice x.A x.t.ws.length x.cap) := ⟨h.cell 0, h.cell 1, h.cell 2⟩
theorem ttypes_box {w : World} {base n s b : Nat} {V : Value} {xs cs : List Value} (h : Box w b 27 cs) (h' : w.ownsRow base 49 s V n xs) : V.ownBlock ≠ some b := fun hb => h.ne_row h' hb (by decide) rfl
/-- transactions that can be read: their row, and the rows of their writes -/
def TRd (w : World) (B : Nat) (A : Option Addr) (l : List Tv) : Prop := Rd w B A (tns l) ∧ ∀ x ∈ l, Rd w B x.A (tws x.t.ws)
section
variable {w w' : World} {B B' : Nat} {A : Option Addr} {l : List Tv}
theorem TRd.below (h : TRd w B A l) (hb : Below B w w') : TRd w' B A l := ⟨h.1.below hb, fun x hx => (h.2 x hx).below hb⟩
theorem TRd.more (h : TRd w B A l) (hB : B ≤ B') : TRd w B' A l := ⟨h.1.more hB, fun x hx => (h.2 x hx).more hB⟩
theorem TRd.drewN (h : TRd w B A l) (n : Nat) : TRd (w.drewN n) B A l := h
theorem TRd.on (h : TRd w w.heap.size A l) (hb : Below w.heap.size w w') : TRd w' w'.heap.size A l := (h.below hb).more hb.size
theorem TRd.front (h : TRd w B A l) (k : Nat) : TRd w B A (l.take k) := ⟨by rw [tns_take]; exact h.1.front, fun x hx => h.2 x (List.mem_of_mem_take hx)⟩
theorem TRd.back {ad : Addr} (h : TRd w B (some ad) l) (k : Nat) : TRd w B (some (ad.add (k * 3))) (l.drop k) := ⟨by rw [tns_drop]; exact h.1.tail, fun x hx => h.2 x (List.mem_of_mem_drop hx)⟩
theorem TRd.nil : TRd w B A [] := ⟨Rd.empty, by simp⟩
end
/-- transactions that the call made: the row, the rows of the writes, all apart from one another -/
structure TOwn (w : World) (base : Nat) (V : Value) (l : List Tv) : Prop where
  row : w.ownsRow base 27 3 V l.length (tns l)
  each : ∀ x ∈ l, w.ownsRow base 49 34 x.v x.t.ws.length (tws x.t.ws)
  apart : l.Pairwise fun x y => ∀ b, x.v.ownBlock = some b → y.v.ownBlock ≠ some b
theorem ttypes_apart {w : World} {base base' n n' s s' : Nat} {V V' : Value} {xs xs' : List Value} (h : w.ownsRow base 27 s V n xs) (h' : w.ownsRow base' 49 s' V' n' xs') : ∀ b, V.ownBlock = some b → V'.ownBlock ≠ some b := by
  intro b hb hb'
  obtain ⟨_, cur, h1⟩ := own_type h hb
  obtain ⟨_, cur', h2⟩ := own_type h' hb'
  rw [h1] at h2
  injection h2 with h2
  injection h2 with _ h2
  revert h2
  decide
theorem trow_kept {w w' : World} {base s n : Nat} {e : TypeId} {V : Value} {xs : List Value} {r : Option Nat} (h : w.ownsRow base e s V n xs) (hg : w.grownBy w' r) (hn : ∀ b, V.ownBlock = some b → r ≠ some b) : w'.ownsRow base e s V n xs := by
  refine h.kept hg ?_
  cases hv : V.ownBlock with
  | none => exact .inl rfl
  | some b => exact .inr fun e => hn b hv e.symm
section
variable {w w' : World} {base : Nat} {V : Value} {l : List Tv}
theorem TOwn.nil (w : World) (base : Nat) : TOwn w base (.slice none 0 0) [] := ⟨World.ownsRow_nil _ _ _ _, by simp, List.Pairwise.nil⟩
theorem TOwn.on (h : TOwn w base V l) (hb : Below w.heap.size w w') : TOwn w' base V l := ⟨own_below h.row hb, fun x hx => own_below (h.each x hx) hb, h.apart⟩
theorem TOwn.rd {A : Option Addr} {n c : Nat} (h : TOwn w base (.slice A n c) l) : TRd w w.heap.size A l := by
  obtain ⟨hr, he, _⟩ := h
  refine ⟨?_, fun x hx => Rd.own (he x hx)⟩
  rcases hr.2 with ⟨e1, h0⟩ | ⟨g, cap, cur, e1, _⟩
  · obtain rfl : l = [] := List.eq_nil_of_length_eq_zero h0
    exact Rd.empty
  · injection e1 with e1 e2 e3
    subst e1 e2 e3
    exact Rd.own hr
/-- a store into rows apart -/
theorem TOwn.beside {r : Option Nat} (h : TOwn w base V l) (hg : w.grownBy w' r) (h0 : ∀ b, V.ownBlock = some b → r ≠ some b) (h1 : ∀ x ∈ l, ∀ b, x.v.ownBlock = some b → r ≠ some b) : TOwn w' base V l :=
  ⟨trow_kept h.row hg h0, fun x hx => trow_kept (h.each x hx) hg (h1 x hx), h.apart⟩
/-- one transaction more -/
theorem TOwn.more {V' : Value} {x : Tv} (h : TOwn w base V l) (hg : w.grownBy w' V.ownBlock) (hx : w.ownsRow base 49 34 x.v x.t.ws.length (tws x.t.ws)) (ha : ∀ y ∈ l, ∀ b, y.v.ownBlock = some b → x.v.ownBlock ≠ some b)
    (hr : w'.ownsRow base 27 3 V' (l.length + 1) (tns l ++ tnc x)) : TOwn w' base V' (l ++ [x]) := by
  refine ⟨by rw [List.length_append, tns_append, tns_single]; exact hr, fun y hy => ?_, ?_⟩
  · rcases List.mem_append.1 hy with hy | hy
    · exact trow_kept (h.each y hy) hg fun b hb e => ttypes_apart h.row (h.each y hy) b e hb
    · obtain rfl := List.mem_singleton.1 hy
      exact trow_kept hx hg fun b hb e => ttypes_apart h.row hx b e hb
  · rw [List.pairwise_append]
    refine ⟨h.apart, List.pairwise_singleton _ _, fun y hy z hz => ?_⟩
    obtain rfl := List.mem_singleton.1 hz
    exact ha y hy
end
/-- a ledger: Next, and where its transactions lie -/
structure Lv where
  nx : Int
  l : List Tv
  A : Option Addr
  cap : Nat
abbrev Lv.v (x : Lv) : Value := .slice x.A x.l.length x.cap
abbrev lgc (x : Lv) : List Value := [.int .i64 x.nx, x.v]
abbrev tval (x : Tv) : Value := .agg (tnc x).toArray
abbrev lval (x : Lv) : Value := .agg (lgc x).toArray
abbrev wval (x : Wt) : Value := .agg (twc x).toArray
theorem lg_size (x : Lv) : (Try.prog.info? 24).map (·.size) = some (lgc x).length := by
  show _ = some 2
  kernel_rfl
theorem lgc_one (x : Lv) : ∀ u ∈ lgc x, u.oneCell' = true := by
  intro u hu
  simp [lgc] at hu
  rcases hu with rfl | rfl <;> rfl
theorem lg_box {w : World} {b : Nat} {x : Lv} {T : TypeId} (h : Box w b T (lgc x)) : w.cell? ⟨b, 0, none⟩ = some (.int .i64 x.nx) ∧ w.cell? ⟨b, 1, none⟩ = some (.slice x.A x.l.length x.cap) := ⟨h.cell 0, h.cell 1⟩
end Go.Proofs.Ytiljjgohmjimdaa

/-
  Pg Tail DfA
-/
import Derived.Test.YtkdhibjmfanhcaaMg10
import Derived.Test.YtkdhibjmfanhcaaMg05
import Derived.Laws.StructEq
import Derived.Test.YtkdhibjmfanhcaaMg01
import Derived.StillTail
import Derived.Test.YtkdhibjmfanhcaaMg30
/-
  Sectors (pages of 64 bytes) as blocks known whole: made, read, laid, compared.
-/
namespace Go.Proofs.Ytkdhibjmfanhcaa
open Go.RowKit Word
set_option linter.unusedVariables false

theorem Box.on {w w' : World} {b : Nat} {T : TypeId} {cs : List Value} (h : Box w b T cs) (hb : Below w.heap.size w w') : Box w' b T cs := h.below hb h.lt
abbrev pg0 : List Int := List.replicate 64 0
theorem size_u8 (w : World) : (sizeOf 5).run Try.prog w = .ok 1 w := by go_simp
theorem pg_zero (w : World) : (zeroValue 42).run Try.prog w = .ok (.agg (bs pg0).toArray) w :=
  (zero_of_info (P := Try.prog) (t := 42) (v := .agg (bs pg0).toArray) (n := 64) (by kernel_rfl)).1 w
theorem pg_build (w : World) : (Instr.build 42 #[]).run Try.prog w = .ok (.agg (bs pg0).toArray) w := by
  unfold Instr.build
  simp only [Sem.run_bind, pg_zero w, Result.andThen, run_underlying Try.underlying42, size_u8]
  rfl
theorem pg_equal (w : World) (xs ys : List Int) (hx : xs.length = 64) (hy : ys.length = 64) : (Op.equalIn 10000 42 (.agg (bs xs).toArray) (.agg (bs ys).toArray)).run Try.prog w = .ok (xs == ys) w :=
  big_equal w 9998 _ _ 64 .u8 Try.underlying42 Try.underlying5 size_u8 xs ys hx hy
theorem pg_guard : Try.prog.eqGuardType Try.prog.depth 42 = false := by kernel_rfl
theorem pg_size {p : List Int} (hp : p.length = 64) : (Try.prog.info? 42).map (·.size) = some (bs p).length := by rw [bs_length, hp]; kernel_rfl
section
variable {w : World} {ops : Array Oper} {rest : List Oper} {o : Oper} {a : Act} {Q : Exit → Act → World → Prop}
theorem wpList_pg_load (hgd : o.guard = none) (x : Operand) (ho : o.op = .load 42 x) (g : Nat) (p : List Int) (hp : p.length = 64) (hx : a.eval x = .pointer (some ⟨g, 0, none⟩)) (hb : Box w g 42 (bs p))
    (h : wpList Try.prog ops Q rest (a.put o.dst (.agg (bs p).toArray)) w) : wpList Try.prog ops Q (o :: rest) a w :=
  wpList_load_box w hgd _ x ho g 0 (bs p) _ Try.underlying42 rfl (pg_size hp) hx hb.range0 h
theorem wpList_pg_store (hgd : o.guard = none) (x y : Operand) (ho : o.op = .store 42 x y) (g : Nat) (p old : List Int) (hp : p.length = 64) (hold : old.length = 64) (hx : a.eval x = .pointer (some ⟨g, 0, none⟩)) (hy : a.eval y = .agg (bs p).toArray) (hb : Box w g 42 (bs old))
    (h : ∀ w', Box w' g 42 (bs p) → w.grownBy w' (some g) → w'.heap.size = w.heap.size → wpList Try.prog ops Q rest (a.put o.dst undef) w') : wpList Try.prog ops Q (o :: rest) a w :=
  wpList_store_box w hgd _ x y ho g (bs p) (bs old) (pg_size hp) (by rw [bs_length, bs_length, hp, hold]) (fun u hu => bs_one _ _ hu) hx hy hb
    (h _ (setRow_heap w g _ _ _ _ hb) ⟨rfl, rfl, rfl, by simp [World.setRow], fun k _ hk => setRow_other w g k _ (by intro e; exact hk (by rw [e]))⟩ (by simp [World.setRow]))
theorem wpList_pg_alloc (hgd : o.guard = none) (ho : o.op = .alloc 42)
    (h : ∀ w', Box w' w.heap.size 42 (bs pg0) → Below w.heap.size w w' → w'.heap.size = w.heap.size + 1 → wpList Try.prog ops Q rest (a.put o.dst (.pointer (some ⟨w.heap.size, 0, none⟩))) w') : wpList Try.prog ops Q (o :: rest) a w :=
  wpList_alloc_box w hgd _ ho (bs pg0) pg_zero h
theorem wpList_pg_box (hgd : o.guard = none) (x : Operand) (ho : o.op = .box 42 x) (p : List Int) (hx : a.eval x = .agg (bs p).toArray)
    (h : ∀ w', Box w' w.heap.size 42 (bs p) → Below w.heap.size w w' → w'.heap.size = w.heap.size + 1 → wpList Try.prog ops Q rest (a.put o.dst (.pointer (some ⟨w.heap.size, 0, none⟩))) w') : wpList Try.prog ops Q (o :: rest) a w :=
  wpList_box_box w hgd _ x ho (bs p) hx h
end
end Go.Proofs.Ytkdhibjmfanhcaa

/-
  A region that draws its order, whose operations but for a forced tail read cells that stay, with callees that make memory: one walk of the head in whatever world of a class, then the tail in the text's order. Nothing here speaks of one program.
-/
namespace Go.Proofs.Ytkdhibjmfanhcaa
open Go.RowKit Go
set_option linter.unusedVariables false

section
variable {P : Program} {ops : Array Oper} {md : Region.Mode} {C : World → Prop}

/-- the head, in whatever order; 'L' is asked where it ends -/
def headQ (P : Program) (md : Region.Mode) (ops : Array Oper) (C : World → Prop) (n : Nat) (L : Array Bool → Act → Prop) : Nat → Array Bool → Act → Prop
  | 0, listed, a => L listed a
  | f + 1, listed, a => Region.ready md ops listed ≠ [] ∧ ∀ i ∈ Region.ready md ops listed, i < n ∧ qOp P ops C i (headQ P md ops C n L f (listed.setIfInBounds i true)) a

theorem any_of_headQ {n g : Nat} {L : Array Bool → Act → Prop} {Q' : Exit → Act → World → Prop} (hL : ∀ listed a w, C w → L listed a → wpAny P md ops Q' g listed a w) :
    ∀ (f : Nat) (listed : Array Bool) (a : Act) (w : World), C w → headQ P md ops C n L f listed a → wpAny P md ops Q' (f + g) listed a w
  | 0, listed, a, w, hw, h => by rw [Nat.zero_add]; exact hL _ _ _ hw h
  | f + 1, listed, a, w, hw, h => by
    rw [show f + 1 + g = (f + g) + 1 by omega]
    exact ⟨fun h0 => absurd h0 h.1, fun i hi => wpOp_of_qOp hw (fun a' w' hw' h' => any_of_headQ hL f _ a' w' hw' h') (h.2 i hi).2⟩

theorem headQ_first {n i : Nat} {oi : Oper} {v : Value} {L : Array Bool → Act → Prop} (hi : ops[i]? = some oi) (hsel : ∀ (j : Nat) (o : Oper) cs b, ops[j]? = some o → o.op ≠ .select cs b)
    (hs : Region.sinkB md ops n = true) (hc : Region.chainB md ops n = true) (hn : n < ops.size) (hin : i < n) (hdone : ∀ listed a, L listed a → ∀ j ∈ Region.ready md ops listed, n ≤ j) :
    ∀ (f : Nat) (listed : Array Bool) (a : Act), HeadInv md ops n listed →
      (∀ j oj, ops[j]? = some oj → j ≠ i → listed.getD j true = false → (∀ e ∈ oj.after, Region.binds md e = true → e.on ≠ i) → oi.apart ops oj = true) →
      i ∈ Region.ready md ops listed → YieldsIn P ops C oi v a → headQ P md ops C n L f (listed.setIfInBounds i true) (a.put oi.dst v) → headQ P md ops C n L (f + 1) listed a := by
  intro f
  induction f with
  | zero =>
    intro listed a inv _ hr hy H
    have hun := (mem_ready.1 hr).1
    refine ⟨fun h => (by rw [h] at hr; cases hr), fun j hj => ?_⟩
    have hjn : j < n := Nat.lt_of_not_le fun h => tail_waits hs hc hn inv _ i rfl hin hun j h hj
    refine ⟨hjn, ?_⟩
    by_cases hji : j = i
    · subst hji; exact hy.qOp hi H
    · have := hdone _ _ H j (ready_mono hj hji)
      omega
  | succ f ih =>
    intro listed a inv hfree hr hy H
    have hun := (mem_ready.1 hr).1
    refine ⟨fun h => (by rw [h] at hr; cases hr), fun j hj => ?_⟩
    have hjn : j < n := Nat.lt_of_not_le fun h => tail_waits hs hc hn inv _ i rfl hin hun j h hj
    refine ⟨hjn, ?_⟩
    by_cases hji : j = i
    · subst hji; exact hy.qOp hi H
    · have h1 := (H.2 j (ready_mono hj hji)).2
      obtain ⟨hjun, oj, hoj, hall⟩ := mem_ready.1 hj
      have hnot : ∀ e ∈ oj.after, Region.binds md e = true → e.on ≠ i := fun e he hb heq => by
        have h1 := hall e he hb
        rw [heq, getD_both hun] at h1
        cases h1
      have h2 := qOp_put hoj (hfree j oj hoj hji hjun hnot) (fun cs b => hsel i oi cs b hi) (fun cs b => hsel j oj cs b hoj) hy h1
      have hfree' : ∀ k ok, ops[k]? = some ok → k ≠ i → (listed.setIfInBounds j true).getD k true = false →
          (∀ e ∈ ok.after, Region.binds md e = true → e.on ≠ i) → oi.apart ops ok = true := fun k ok hk hki hun hno => by
        refine hfree k ok hk hki ?_ hno
        by_cases hjk : j = k
        · subst hjk; exact hjun
        · rw [getD_set_ne true hjk] at hun; exact hun
      refine qOp_mono (fun a' h3 => ih (listed.setIfInBounds j true) a' (inv.set hj hjn) hfree' (ready_mono hr (Ne.symm hji)) h3.1 ?_) h2
      rw [Array.setIfInBounds_comm _ _ hji]
      exact h3.2

theorem headQ_lex {n g : Nat} {Lq : Act → Prop} (hsel : Region.noSelect ops = true) (hs : Region.sinkB md ops n = true) (hc : Region.chainB md ops n = true) (hn : n < ops.size) :
    ∀ (l : List Oper) (k : Nat) (listed : Array Bool) (a : Act), (∀ j, j < l.length → l[j]? = ops[k + j]?) → k + l.length = n → HeadInv md ops n listed →
    Region.lexHead md ops g l.length k listed = true → wpQuiet P ops C Lq l a → headQ P md ops C n (fun listed' a' => Region.seqB md ops g n listed' = true ∧ Lq a') l.length listed a
  | [], k, listed, a, _, hk, _, hB, h => by
    have : k = n := by simpa using hk
    subst this
    exact ⟨by simpa [Region.lexHead] using hB, h⟩
  | o :: l, k, listed, a, hl, hk, inv, hB, h => by
    have h0 : ops[k]? = some o := by simpa using (hl 0 (by simp)).symm
    simp only [List.length_cons, Region.lexHead, Bool.and_eq_true] at hB
    obtain ⟨⟨hr, hf⟩, hB'⟩ := hB
    have hkn : k < n := by simp only [List.length_cons] at hk; omega
    have hr' : k ∈ Region.ready md ops listed := by simpa using hr
    have hst : qOp P ops C k (wpQuiet P ops C Lq l) a := by unfold qOp; simp only [h0]; exact h
    obtain ⟨v, hy, hK⟩ := yieldsIn_of_qOp h0 hst
    exact headQ_first h0 (Region.noSelect_spec hsel) hs hc hn hkn (fun listed' a' hL => seqB_ready hL.1) l.length listed a inv (Region.free_spec h0 hf) hr' hy
      (headQ_lex hsel hs hc hn l (k + 1) _ _ (fun j hj => by have := hl (j + 1) (by simp; omega); simpa [Nat.add_assoc, Nat.add_comm 1 j] using this) (by simp only [List.length_cons] at hk; omega) (inv.set hr' hkn) hB' hK)

theorem wp_region_quiet_tail {id : Nat} {Q : Exit → Act → World → Prop} {a : Act} {w : World} {l : List Oper} (n : Nat) (hm : P.follows .mixedOrders = true) (hB : Region.lexTailB .any l.toArray n = true) (hC : C w.drew)
    (h : wpQuiet P l.toArray C (fun a' => ∀ w', C w' → wpList P l.toArray Q (l.drop n) a' w') (l.take n) a) : (Code.region id l.toArray true).wp P Q a w := by
  simp only [Region.lexTailB, Bool.and_eq_true, decide_eq_true_eq] at hB
  obtain ⟨⟨⟨⟨hsel, hn⟩, hs⟩, hc⟩, hlex⟩ := hB
  have hn' : n < l.length := by simpa using hn
  have htl : (l.take n).length = n := by simp; omega
  have hdl : (l.drop n).length = l.toArray.size - n := by simp
  have inv0 : HeadInv .any l.toArray n (Array.replicate l.toArray.size false) :=
    ⟨by simp, fun j oj _ hl => (by rw [getD_replicate_false] at hl; cases hl), fun t _ ht => getD_in (by simpa using ht) (getD_replicate_false _ _)⟩
  have H := headQ_lex (md := .any) (g := l.toArray.size - n) hsel hs hc hn (l.take n) 0 _ a (fun j hj => by
    have hj' : j < n := by rw [htl] at hj; exact hj
    simp [hj']) (by simpa using htl) inv0 (by rw [htl]; exact hlex) h
  refine wp_region_any hm ?_
  have := any_of_headQ (Q' := Q) (g := l.toArray.size - n) (fun listed a' w' hw' hL => by
    have := wpAny_of_seq (md := .any) (Q' := Q) (l.drop n) n listed a' w' (fun j => by simp [List.getElem?_drop]) (by rw [hdl]; exact hL.1) (hL.2 w' hw')
    rwa [hdl] at this) _ _ _ _ hC H
  rw [htl, show n + (l.toArray.size - n) = l.toArray.size by omega] at this
  exact this

/-- the class named by what is known of its worlds (as wp_region_class) -/
theorem wp_region_class_tail {id : Nat} {Q : Exit → Act → World → Prop} {a : Act} {w : World} {l : List Oper} (S : World → Prop) (n : Nat) (hm : P.follows .mixedOrders = true) (hB : Region.lexTailB .any l.toArray n = true) (hS : S w.drew)
    (h : ∀ (X : Type) (_ : Nonempty X) (f : X → World), (∀ x, S (f x)) → (∀ w', S w' → ∃ x, w' = f x) →
      wpQuiet P l.toArray (fun w' => ∃ x, w' = f x) (fun a' => ∀ w', (∃ x, w' = f x) → wpList P l.toArray Q (l.drop n) a' w') (l.take n) a) : (Code.region id l.toArray true).wp P Q a w :=
  wp_region_quiet_tail (C := fun w' => ∃ x : { w' : World // S w' }, w' = x.val) n hm hB ⟨⟨w.drew, hS⟩, rfl⟩
    (h { w' : World // S w' } ⟨⟨w.drew, hS⟩⟩ (fun x => x.val) (fun x => x.property) (fun w' hw => ⟨⟨w', hw⟩, rfl⟩))
end
end Go.Proofs.Ytkdhibjmfanhcaa

/-
  The document's answers for layer 5: cells in rows; Find, Page.
-/
namespace Go.Proofs.Ytkdhibjmfanhcaa
open Go.RowKit Geom Zone Dev
set_option linter.unusedVariables false

/-- a row that begins a block -/
def Row (w : World) (B : Nat) (A : Option Addr) (xs : List Value) : Prop := xs ≠ [] → ∃ g, A = some ⟨g, 0, none⟩ ∧ g < B ∧ w.rangeAt g 0 xs
section
variable {w w' : World} {B B' : Nat} {A : Option Addr} {xs : List Value}
theorem Row.rd (h : Row w B A xs) : Rd w B A xs := fun hn => by
  obtain ⟨g, e, hb, hc⟩ := h hn
  exact ⟨⟨g, 0, none⟩, e, hb, fun j u hu => by rw [Addr.add_mid]; exact hc j u hu⟩
theorem Row.empty : Row w B A [] := fun h => absurd rfl h
theorem Row.kept (h : Row w B A xs) (hB : B ≤ B') (hk : ∀ k, k < B → w'.heap[k]? = w.heap[k]?) : Row w' B' A xs := fun hn => by
  obtain ⟨g, e, hb, hc⟩ := h hn
  exact ⟨g, e, Nat.lt_of_lt_of_le hb hB, fun j u hu => (World.cell?_of_block (hk g hb)).trans (hc j u hu)⟩
theorem Row.more (h : Row w B A xs) (hB : B ≤ B') : Row w B' A xs := h.kept hB fun _ _ => rfl
theorem Row.below (h : Row w B A xs) (hb : Below B w w') : Row w' B A xs := h.kept (Nat.le_refl _) fun _ hk => hb.block _ hk
theorem Row.on (h : Row w w.heap.size A xs) (hb : Below w.heap.size w w') : Row w' w'.heap.size A xs := (h.below hb).more hb.size
theorem Row.own {base : Nat} {e : TypeId} {size n c : Nat} (h : w.ownsRow base e size (.slice A n c) n xs) : Row w w.heap.size A xs := fun hn => by
  rcases h.2 with ⟨h2, h3⟩ | ⟨g, cap, cur, h1, _⟩
  · rcases Nat.eq_zero_or_pos n with h0 | h0
    · subst h0
      exact absurd (List.eq_nil_of_length_eq_zero (by simpa using h.1)) hn
    · omega
  · injection h1 with h1 _ _
    subst h1
    obtain ⟨ad, hA, hlt, hc⟩ := Rd.own h hn
    injection hA with hA
    subst hA
    refine ⟨g, rfl, hlt, fun j u hu => ?_⟩
    have := hc j u hu
    rwa [Addr.add_mid] at this
end
theorem guard_at : Try.prog.eqGuardType Try.prog.depth 40 = false := by kernel_rfl
theorem equal_at (w : World) (a b c d : Int) : (Op.equalIn 10000 40 (.agg #[.int .i64 a, .int .i64 b]) (.agg #[.int .i64 c, .int .i64 d])).run Try.prog w = .ok (a == c && b == d) w := by
  rw [run_equalIn_agg _ _ _ _ _ (by kernel_rfl) (by kernel_rfl)]
  simp [go_sem, Try.underlying40, Try.underlying3]
  by_cases h1 : a = c <;> by_cases h2 : b = d <;> simp [h1, h2]
theorem eql_at (w : World) (a b c d : Int) : (binOp .eql 40 (.agg #[.int .i64 a, .int .i64 b]) (.agg #[.int .i64 c, .int .i64 d])).run Try.prog w = .ok (.bool (a == c && b == d)) w := by
  rw [run_eql_struct, equal_at]
  rfl
theorem row_cell {w : World} {g : Nat} {l : List Wr} {j i : Nat} {c : Wr} {v : Value} (hr : w.rangeAt g 0 (wcs l)) (hw : WOk l) (hj : l[j]? = some c) (hi : (wc c)[i]? = some v) : w.cell? ⟨g, j * 66 + i, none⟩ = some v := by
  have := hr _ _ (wcs_get hw hj i v hi)
  rwa [Nat.zero_add] at this
theorem row_page {w : World} {g : Nat} {l : List Wr} {j : Nat} {c : Wr} (hr : w.rangeAt g 0 (wcs l)) (hw : WOk l) (hj : l[j]? = some c) : w.rangeAt g (j * 66 + 2) (bs c.2.2) := fun i v hi => by
  have h2 : (wc c)[i + 2]? = some v := by
    unfold wc
    rw [show i + 2 = i + 1 + 1 by omega, List.getElem?_cons_succ, List.getElem?_cons_succ]
    exact hi
  have := row_cell hr hw hj h2
  rwa [show j * 66 + (i + 2) = j * 66 + 2 + i by omega] at this
theorem row_zone {w : World} {g : Nat} {l : List Wr} {j : Nat} {c : Wr} (hr : w.rangeAt g 0 (wcs l)) (hw : WOk l) (hj : l[j]? = some c) : w.cell? ⟨g, j * 66, none⟩ = some (.int .i64 c.1) ∧ w.cell? ⟨g, j * 66 + 1, none⟩ = some (.int .i64 c.2.1) :=
  ⟨by have := row_cell (i := 0) (v := .int .i64 c.1) hr hw hj (by unfold wc; rw [List.getElem?_cons_zero]); rwa [Nat.add_zero] at this,
   row_cell (i := 1) (v := .int .i64 c.2.1) hr hw hj (by unfold wc; rw [List.getElem?_cons_succ, List.getElem?_cons_zero])⟩
theorem fnd_wok {l : List Wr} {a : Pl} {p : List Int} (hw : WOk l) (h : fnd l a = some p) : p.length = 64 := by
  unfold fnd at h
  simp only [Option.map_eq_some_iff] at h
  obtain ⟨c, hc, rfl⟩ := h
  exact hw c (List.mem_reverse.1 (List.mem_of_find?_eq_some hc))
theorem wcs_ne {l : List Wr} (hw : WOk l) (h : l ≠ []) : wcs l ≠ [] := by
  intro e
  have := wcs_length hw
  rw [e] at this
  cases l with
  | nil => exact h rfl
  | cons c r => simp at this

set_option maxRecDepth 100000 in
set_option maxHeartbeats 2000000 in
theorem find_any (A : Option Addr) (n cap : Nat) (l : List Wr) (a : Pl) (w : World) (hl : l.length = n) (hn : n ≤ 100000) (hw : WOk l) (hr : Row w w.heap.size A (wcs l)) :
    Calls Try.prog 44 #[.slice A n cap, .agg #[.int .i64 a.1, .int .i64 a.2]] w fun e w' => e = .returned (.tuple #[.agg (bs ((fnd l a).getD z64)).toArray, .bool (fnd l a).isSome]) ∧ Below w.heap.size w w' := by
  obtain ⟨m, hm, hsz⟩ := big_size (P := Try.prog) (t := 42) (s := 64) (by kernel_rfl)
  have hm0 : ¬ m = 0 := by omega
  have HM := Lib.hid hm
  have HR := Lib.hid hr
  have HW := Lib.hid (And.intro hl hw)
  clear hm hr hl hw
  obtain ⟨x0, B0⟩ : Box (w.alloc (.cells #[.int .i64 a.1, .int .i64 a.2] 40)) w.heap.size 40 [.int .i64 a.1, .int .i64 a.2] ∧ Below w.heap.size w (w.alloc (.cells #[.int .i64 a.1, .int .i64 a.2] 40)) :=
    ⟨Box.new w _ [.int .i64 a.1, .int .i64 a.2], (Below.refl _ _).alloc (Nat.le_refl _) _⟩
  go_enter Try.func44, Try.ntmps44
  go_wp2_with (first
    | ((with_reducible refine wpList_pg_alloc (o := ⟨some 4, .alloc _, _, _, _, _⟩) rfl rfl ?_); intro w2 x1 hB2 hs2)
    | fail)
  have x1 : Box w2 (w.heap.size + 1) 42 (bs pg0) := by simpa using x1
  have HK := Lib.hid (And.intro (x0.on hB2) (And.intro x1 (And.intro (bthen B0 hB2) (And.intro (HR.out.below (bthen B0 hB2)) (show w.heap.size + 2 ≤ w2.heap.size by rw [hs2]; simp)))))
  clear x0 B0 x1 hB2 hs2
  have heq := fun w' x y => eql_at w' x y a.1 a.2
  have hgd := guard_at
  go_loopw [6] (fun i wr => ∃ k : Nat, k ≤ n ∧ i = .int .i64 ((k : Int) - 1) ∧ fnd (l.drop k) a = none ∧ ∃ q, w2.drewN q = wr) (fun i _ => (intOf i + 1).toNat)
  case atStart => exact ⟨n, Nat.le_refl _, rfl, by rw [List.drop_eq_nil_of_le (by rw [HW.out.1]; exact Nat.le_refl _)]; rfl, 0, rfl⟩
  case round =>
    obtain ⟨k, hk, rfl, hnone, q, rfl⟩ := hrel
    have HN := Lib.hid hnone
    clear hnone
    by_cases hlt : 0 < k
    · obtain ⟨j, rfl⟩ : ∃ j, k = j + 1 := ⟨k - 1, by omega⟩
      have hjl : j < l.length := by rw [HW.out.1]; omega
      have hlj : l[j]? = some (l.getD j (0, 0, z64)) := by simp [hjl]
      have hdrop : l.drop j = l.getD j (0, 0, z64) :: l.drop (j + 1) := by
        rw [List.drop_eq_getElem_cons hjl, List.getD_eq_getElem?_getD, List.getElem?_eq_getElem hjl]
        rfl
      have hfj : fnd (l.drop j) a = if a = (l.getD j (0, 0, z64)).pl then some (l.getD j (0, 0, z64)).2.2 else none := by rw [hdrop, fnd_cons, HN.out]; rfl
      have hfl : ∀ v, fnd (l.drop j) a = some v → fnd l a = some v := fun v h => by
        have : l = l.take j ++ l.drop j := (List.take_append_drop j l).symm
        rw [this, fnd_append, h]
        rfl
      obtain ⟨g, rfl, hgl, hrg⟩ := HK.out.2.2.2.1 (wcs_ne HW.out.2 (by rintro rfl; simp at hjl))
      have hpl := HW.out.2 _ (List.mem_of_getElem? hlj)
      have hpg := row_page hrg HW.out.2 hlj
      obtain ⟨c0, c1⟩ := row_zone hrg HW.out.2 hlj
      generalize l.getD j (0, 0, z64) = c at hlj hfj hpl hpg c0 c1
      obtain ⟨z, o, p⟩ := c
      have hyes : a = (z, o) → fnd (l.drop j) a = some p := fun h => by rw [hfj]; exact if_pos h
      have hno : a ≠ (z, o) → fnd (l.drop j) a = none := fun h => by rw [hfj]; exact if_neg h
      simp only at hpl hpg c0 c1
      have hjn : j < n := by omega
      have hji : (j : Int) < (n : Int) := by omega
      clear hfj
      have a0 : w2.cell? ⟨w.heap.size, 0, none⟩ = some (.int .i64 a.1) := HK.out.1.cell 0
      have a1 : w2.cell? ⟨w.heap.size, 1, none⟩ = some (.int .i64 a.2) := HK.out.1.cell 1
      have hidx : ((j + 1 : Nat) : Int) - 1 = (j : Int) := by omega
      rw [hidx]
      clear hidx hdrop
      by_cases he : a = (z, o)
      · have hb : (z == a.1 && o == a.2) = true := by rw [he]; simp
        have HF := Lib.hid (hfl p (hyes he))
        have HP := Lib.hid (And.intro hpl hpg)
        clear hyes hno hfl hpg hpl he
        go_wp2_with fail
        go_quiet (fail)
        have hld := big_load0 Try.prog g (j * 66 + 2) (bs p) m (by rw [bs_length, HP.out.1, HM.out]) ((w2.drewN q).drewN nq) HP.out.2
        have HX : Hid (Box ((w2.drewN q).drewN nq) (w.heap.size + 1) 42 (bs pg0)) := Lib.hid HK.out.2.1
        have HB := Lib.hid (below_draws (below_draws HK.out.2.2.1 q) nq)
        clear c0 c1 a0 a1
        generalize (w2.drewN q).drewN nq = W at hld HX HB ⊢
        go_wp2_with (first
          | ((with_reducible refine wpList_pg_store (o := ⟨none, .store _ _ _, _, _, _, _⟩) rfl _ _ rfl (w.heap.size + 1) p pg0 HP.out.1 rfl rfl rfl HX.out ?_); intro w9 hb9 hg9 _)
          | fail)
        have hldF := big_load0 Try.prog (w.heap.size + 1) 0 (bs p) m (by rw [bs_length, HP.out.1, HM.out]) _ hb9.range0
        generalize hR : bs p = R at hldF ⊢
        exact bodyPost_ret (v := .tuple #[.agg R.toArray, .bool true]) (by simp [results, Try.results44, go_sem, hsz, hldF]) rfl ⟨by rw [HF.out, ← hR]; rfl, below_stored HB.out hg9 HB.out.size (by omega)⟩
      · have hb : (z == a.1 && o == a.2) = false := by
          rw [Bool.eq_false_iff]
          intro h
          simp at h
          exact he (by rw [h.1, h.2])
        have HF := Lib.hid (hno he)
        clear hyes hno hfl hpl he hpg
        go_wp2_with fail
        go_quiet (fail)
        go_wp2
        go_roundw
        case rel => exact ⟨j, by omega, by go_num, HF.out, _, rfl⟩
        case measure => first | (simp [intOf]; done) | (simp [intOf]; omega)
    · obtain rfl : k = 0 := by omega
      have HF := Lib.hid (show fnd l a = none from HN.out)
      have HX := Lib.hid (show Box (w2.drewN q) (w.heap.size + 1) 42 (bs pg0) from HK.out.2.1)
      have HB := Lib.hid (below_draws HK.out.2.2.1 q)
      go_wp2_with (first
        | (with_reducible refine wpList_build_zero _ (o := ⟨_, .build _ _, _, _, _, _⟩) rfl _ rfl (bs pg0) pg_build ?_)
        | ((with_reducible refine wpList_pg_store (o := ⟨none, .store _ _ _, _, _, _, _⟩) rfl _ _ rfl (w.heap.size + 1) pg0 pg0 rfl rfl rfl rfl HX.out ?_); intro w9 hb9 hg9 _)
        | fail)
      have hldF := big_load0 Try.prog (w.heap.size + 1) 0 (bs pg0) m (by rw [bs_length, HM.out]; rfl) _ hb9.range0
      generalize hR : bs pg0 = R at hldF ⊢
      exact bodyPost_ret (v := .tuple #[.agg R.toArray, .bool false]) (by simp [results, Try.results44, go_sem, hsz, hldF]) rfl ⟨by rw [HF.out, ← hR]; rfl, below_stored HB.out hg9 HB.out.size (by omega)⟩
end Go.Proofs.Ytkdhibjmfanhcaa

/-
  Pg Tail DevAw
-/
import Derived.Test.YtgnpohkippegpaaGreatMg05
import Derived.Test.YtgnpohkippegpaaGreatMg02
import Derived.Laws.StructEq
import Derived.Test.YtgnpohkippegpaaGreatMg00
import Derived.StillTail
import Derived.Test.YtgnpohkippegpaaGreatMg16
/-
  Sectors (pages of 64 bytes) as blocks known whole: made, read, laid, compared.
-/
namespace Go.Proofs.YtgnpohkippegpaaGreat
open Go.RowKit Word
set_option linter.unusedVariables false

abbrev pg0 : List Int := List.replicate 64 0
theorem size_u8 (w : World) : (sizeOf 5).run Tryz.prog w = .ok 1 w := by go_simp
theorem pg_zero (w : World) : (zeroValue 43).run Tryz.prog w = .ok (.agg (bs pg0).toArray) w :=
  (zero_of_info (P := Tryz.prog) (t := 43) (v := .agg (bs pg0).toArray) (n := 64) (by kernel_rfl)).1 w
theorem pg_build (w : World) : (Instr.build 43 #[]).run Tryz.prog w = .ok (.agg (bs pg0).toArray) w := by
  unfold Instr.build
  simp only [Sem.run_bind, pg_zero w, Result.andThen, run_underlying Tryz.underlying43, size_u8]
  rfl
theorem pg_equal (w : World) (xs ys : List Int) (hx : xs.length = 64) (hy : ys.length = 64) : (Op.equalIn 10000 43 (.agg (bs xs).toArray) (.agg (bs ys).toArray)).run Tryz.prog w = .ok (xs == ys) w :=
  big_equal w 9998 _ _ 64 .u8 Tryz.underlying43 Tryz.underlying5 size_u8 xs ys hx hy
theorem pg_guard : Tryz.prog.eqGuardType Tryz.prog.depth 43 = false := by kernel_rfl
theorem pg_size {p : List Int} (hp : p.length = 64) : (Tryz.prog.info? 43).map (·.size) = some (bs p).length := by rw [bs_length, hp]; kernel_rfl
section
variable {w : World} {ops : Array Oper} {rest : List Oper} {o : Oper} {a : Act} {Q : Exit → Act → World → Prop}
theorem wpList_pg_load (hgd : o.guard = none) (x : Operand) (ho : o.op = .load 43 x) (g : Nat) (p : List Int) (hp : p.length = 64) (hx : a.eval x = .pointer (some ⟨g, 0, none⟩)) (hb : Box w g 43 (bs p))
    (h : wpList Tryz.prog ops Q rest (a.put o.dst (.agg (bs p).toArray)) w) : wpList Tryz.prog ops Q (o :: rest) a w :=
  wpList_load_box w hgd _ x ho g 0 (bs p) _ Tryz.underlying43 rfl (pg_size hp) hx hb.range0 h
theorem wpList_pg_store (hgd : o.guard = none) (x y : Operand) (ho : o.op = .store 43 x y) (g : Nat) (p old : List Int) (hp : p.length = 64) (hold : old.length = 64) (hx : a.eval x = .pointer (some ⟨g, 0, none⟩)) (hy : a.eval y = .agg (bs p).toArray) (hb : Box w g 43 (bs old))
    (h : ∀ w', Box w' g 43 (bs p) → w.grownBy w' (some g) → w'.heap.size = w.heap.size → wpList Tryz.prog ops Q rest (a.put o.dst undef) w') : wpList Tryz.prog ops Q (o :: rest) a w :=
  wpList_store_box w hgd _ x y ho g (bs p) (bs old) (pg_size hp) (by rw [bs_length, bs_length, hp, hold]) (fun u hu => bs_one _ _ hu) hx hy hb
    (h _ (setRow_heap w g _ _ _ _ hb) ⟨rfl, rfl, rfl, by simp [World.setRow], fun k _ hk => setRow_other w g k _ (by intro e; exact hk (by rw [e]))⟩ (by simp [World.setRow]))
theorem wpList_pg_alloc (hgd : o.guard = none) (ho : o.op = .alloc 43)
    (h : ∀ w', Box w' w.heap.size 43 (bs pg0) → Below w.heap.size w w' → w'.heap.size = w.heap.size + 1 → wpList Tryz.prog ops Q rest (a.put o.dst (.pointer (some ⟨w.heap.size, 0, none⟩))) w') : wpList Tryz.prog ops Q (o :: rest) a w :=
  wpList_alloc_box w hgd _ ho (bs pg0) pg_zero h
theorem wpList_pg_box (hgd : o.guard = none) (x : Operand) (ho : o.op = .box 43 x) (p : List Int) (hx : a.eval x = .agg (bs p).toArray)
    (h : ∀ w', Box w' w.heap.size 43 (bs p) → Below w.heap.size w w' → w'.heap.size = w.heap.size + 1 → wpList Tryz.prog ops Q rest (a.put o.dst (.pointer (some ⟨w.heap.size, 0, none⟩))) w') : wpList Tryz.prog ops Q (o :: rest) a w :=
  wpList_box_box w hgd _ x ho (bs p) hx h
end
end Go.Proofs.YtgnpohkippegpaaGreat

/-
  A region that draws its order, whose operations but for a forced tail read cells that stay, with callees that make memory: one walk of the head in whatever world of a class, then the tail in the text's order. Nothing here speaks of one program.
-/
namespace Go.Proofs.YtgnpohkippegpaaGreat
open Go.RowKit Go
set_option linter.unusedVariables false

section
variable {P : Program} {ops : Array Oper} {md : Region.Mode} {C : World → Prop}

/-- the head, in whatever order; 'L' is asked where it ends -/
def headQ (P : Program) (md : Region.Mode) (ops : Array Oper) (C : World → Prop) (n : Nat) (L : Array Bool → Act → Prop) : Nat → Array Bool → Act → Prop
  | 0, listed, a => L listed a
  | f + 1, listed, a => Region.ready md ops listed ≠ [] ∧ ∀ i ∈ Region.ready md ops listed, i < n ∧ qOp P ops C i (headQ P md ops C n L f (listed.setIfInBounds i true)) a

theorem any_of_headQ {n g : Nat} {L : Array Bool → Act → Prop} {Q' : Exit → Act → World → Prop} (hL : ∀ listed a w, C w → L listed a → wpAny P md ops Q' g listed a w) :
    ∀ (f : Nat) (listed : Array Bool) (a : Act) (w : World), C w → headQ P md ops C n L f listed a → wpAny P md ops Q' (f + g) listed a w
  | 0, listed, a, w, hw, h => by rw [Nat.zero_add]; exact hL _ _ _ hw h
  | f + 1, listed, a, w, hw, h => by
    rw [show f + 1 + g = (f + g) + 1 by omega]
    exact ⟨fun h0 => absurd h0 h.1, fun i hi => wpOp_of_qOp hw (fun a' w' hw' h' => any_of_headQ hL f _ a' w' hw' h') (h.2 i hi).2⟩

theorem headQ_first {n i : Nat} {oi : Oper} {v : Value} {L : Array Bool → Act → Prop} (hi : ops[i]? = some oi) (hsel : ∀ (j : Nat) (o : Oper) cs b, ops[j]? = some o → o.op ≠ .select cs b)
    (hs : Region.sinkB md ops n = true) (hc : Region.chainB md ops n = true) (hn : n < ops.size) (hin : i < n) (hdone : ∀ listed a, L listed a → ∀ j ∈ Region.ready md ops listed, n ≤ j) :
    ∀ (f : Nat) (listed : Array Bool) (a : Act), HeadInv md ops n listed →
      (∀ j oj, ops[j]? = some oj → j ≠ i → listed.getD j true = false → (∀ e ∈ oj.after, Region.binds md e = true → e.on ≠ i) → oi.apart ops oj = true) →
      i ∈ Region.ready md ops listed → YieldsIn P ops C oi v a → headQ P md ops C n L f (listed.setIfInBounds i true) (a.put oi.dst v) → headQ P md ops C n L (f + 1) listed a := by
  intro f
  induction f with
  | zero =>
    intro listed a inv _ hr hy H
    have hun := (mem_ready.1 hr).1
    refine ⟨fun h => (by rw [h] at hr; cases hr), fun j hj => ?_⟩
    have hjn : j < n := Nat.lt_of_not_le fun h => tail_waits hs hc hn inv _ i rfl hin hun j h hj
    refine ⟨hjn, ?_⟩
    by_cases hji : j = i
    · subst hji; exact hy.qOp hi H
    · have := hdone _ _ H j (ready_mono hj hji)
      omega
  | succ f ih =>
    intro listed a inv hfree hr hy H
    have hun := (mem_ready.1 hr).1
    refine ⟨fun h => (by rw [h] at hr; cases hr), fun j hj => ?_⟩
    have hjn : j < n := Nat.lt_of_not_le fun h => tail_waits hs hc hn inv _ i rfl hin hun j h hj
    refine ⟨hjn, ?_⟩
    by_cases hji : j = i
    · subst hji; exact hy.qOp hi H
    · have h1 := (H.2 j (ready_mono hj hji)).2
      obtain ⟨hjun, oj, hoj, hall⟩ := mem_ready.1 hj
      have hnot : ∀ e ∈ oj.after, Region.binds md e = true → e.on ≠ i := fun e he hb heq => by
        have h1 := hall e he hb
        rw [heq, getD_both hun] at h1
        cases h1
      have h2 := qOp_put hoj (hfree j oj hoj hji hjun hnot) (fun cs b => hsel i oi cs b hi) (fun cs b => hsel j oj cs b hoj) hy h1
      have hfree' : ∀ k ok, ops[k]? = some ok → k ≠ i → (listed.setIfInBounds j true).getD k true = false →
          (∀ e ∈ ok.after, Region.binds md e = true → e.on ≠ i) → oi.apart ops ok = true := fun k ok hk hki hun hno => by
        refine hfree k ok hk hki ?_ hno
        by_cases hjk : j = k
        · subst hjk; exact hjun
        · rw [getD_set_ne true hjk] at hun; exact hun
      refine qOp_mono (fun a' h3 => ih (listed.setIfInBounds j true) a' (inv.set hj hjn) hfree' (ready_mono hr (Ne.symm hji)) h3.1 ?_) h2
      rw [Array.setIfInBounds_comm _ _ hji]
      exact h3.2

theorem headQ_lex {n g : Nat} {Lq : Act → Prop} (hsel : Region.noSelect ops = true) (hs : Region.sinkB md ops n = true) (hc : Region.chainB md ops n = true) (hn : n < ops.size) :
    ∀ (l : List Oper) (k : Nat) (listed : Array Bool) (a : Act), (∀ j, j < l.length → l[j]? = ops[k + j]?) → k + l.length = n → HeadInv md ops n listed →
    Region.lexHead md ops g l.length k listed = true → wpQuiet P ops C Lq l a → headQ P md ops C n (fun listed' a' => Region.seqB md ops g n listed' = true ∧ Lq a') l.length listed a
  | [], k, listed, a, _, hk, _, hB, h => by
    have : k = n := by simpa using hk
    subst this
    exact ⟨by simpa [Region.lexHead] using hB, h⟩
  | o :: l, k, listed, a, hl, hk, inv, hB, h => by
    have h0 : ops[k]? = some o := by simpa using (hl 0 (by simp)).symm
    simp only [List.length_cons, Region.lexHead, Bool.and_eq_true] at hB
    obtain ⟨⟨hr, hf⟩, hB'⟩ := hB
    have hkn : k < n := by simp only [List.length_cons] at hk; omega
    have hr' : k ∈ Region.ready md ops listed := by simpa using hr
    have hst : qOp P ops C k (wpQuiet P ops C Lq l) a := by unfold qOp; simp only [h0]; exact h
    obtain ⟨v, hy, hK⟩ := yieldsIn_of_qOp h0 hst
    exact headQ_first h0 (Region.noSelect_spec hsel) hs hc hn hkn (fun listed' a' hL => seqB_ready hL.1) l.length listed a inv (Region.free_spec h0 hf) hr' hy
      (headQ_lex hsel hs hc hn l (k + 1) _ _ (fun j hj => by have := hl (j + 1) (by simp; omega); simpa [Nat.add_assoc, Nat.add_comm 1 j] using this) (by simp only [List.length_cons] at hk; omega) (inv.set hr' hkn) hB' hK)

theorem wp_region_quiet_tail {id : Nat} {Q : Exit → Act → World → Prop} {a : Act} {w : World} {l : List Oper} (n : Nat) (hm : P.follows .mixedOrders = true) (hB : Region.lexTailB .any l.toArray n = true) (hC : C w.drew)
    (h : wpQuiet P l.toArray C (fun a' => ∀ w', C w' → wpList P l.toArray Q (l.drop n) a' w') (l.take n) a) : (Code.region id l.toArray true).wp P Q a w := by
  simp only [Region.lexTailB, Bool.and_eq_true, decide_eq_true_eq] at hB
  obtain ⟨⟨⟨⟨hsel, hn⟩, hs⟩, hc⟩, hlex⟩ := hB
  have hn' : n < l.length := by simpa using hn
  have htl : (l.take n).length = n := by simp; omega
  have hdl : (l.drop n).length = l.toArray.size - n := by simp
  have inv0 : HeadInv .any l.toArray n (Array.replicate l.toArray.size false) :=
    ⟨by simp, fun j oj _ hl => (by rw [getD_replicate_false] at hl; cases hl), fun t _ ht => getD_in (by simpa using ht) (getD_replicate_false _ _)⟩
  have H := headQ_lex (md := .any) (g := l.toArray.size - n) hsel hs hc hn (l.take n) 0 _ a (fun j hj => by
    have hj' : j < n := by rw [htl] at hj; exact hj
    simp [hj']) (by simpa using htl) inv0 (by rw [htl]; exact hlex) h
  refine wp_region_any hm ?_
  have := any_of_headQ (Q' := Q) (g := l.toArray.size - n) (fun listed a' w' hw' hL => by
    have := wpAny_of_seq (md := .any) (Q' := Q) (l.drop n) n listed a' w' (fun j => by simp [List.getElem?_drop]) (by rw [hdl]; exact hL.1) (hL.2 w' hw')
    rwa [hdl] at this) _ _ _ _ hC H
  rw [htl, show n + (l.toArray.size - n) = l.toArray.size by omega] at this
  exact this

/-- the class named by what is known of its worlds (as wp_region_class) -/
theorem wp_region_class_tail {id : Nat} {Q : Exit → Act → World → Prop} {a : Act} {w : World} {l : List Oper} (S : World → Prop) (n : Nat) (hm : P.follows .mixedOrders = true) (hB : Region.lexTailB .any l.toArray n = true) (hS : S w.drew)
    (h : ∀ (X : Type) (_ : Nonempty X) (f : X → World), (∀ x, S (f x)) → (∀ w', S w' → ∃ x, w' = f x) →
      wpQuiet P l.toArray (fun w' => ∃ x, w' = f x) (fun a' => ∀ w', (∃ x, w' = f x) → wpList P l.toArray Q (l.drop n) a' w') (l.take n) a) : (Code.region id l.toArray true).wp P Q a w :=
  wp_region_quiet_tail (C := fun w' => ∃ x : { w' : World // S w' }, w' = x.val) n hm hB ⟨⟨w.drew, hS⟩, rfl⟩
    (h { w' : World // S w' } ⟨⟨w.drew, hS⟩⟩ (fun x => x.val) (fun x => x.property) (fun w' hw => ⟨⟨w', hw⟩, rfl⟩))
end
end Go.Proofs.YtgnpohkippegpaaGreat

/-
  'awake' of layer 5 answers true.
  Two devices side by side; what each act keeps of a device's measure; elements of slices of great elements.
  The arguments of the laws of layer 5, opened.
-/
namespace Go.Proofs.YtgnpohkippegpaaGreat
open Go.RowKit Geom Zone Dev
set_option linter.unusedVariables false

section
variable {w W W' : World} {d : Nat} {D D' : Dv} {T U : Nat → Prop}
theorem DevIs.shrink (h : DevIs T W d D) (hU : ∀ k, k < W.heap.size → T k → U k) : DevIs U W d D := by
  obtain ⟨gz, cz, lb, cv, nb, hD, hown, hcv, hm, hmn, t1, t2, t3, t4, t5, t6⟩ := h
  exact ⟨gz, cz, lb, cv, nb, hD, hown, hcv, hm, hmn, hU _ hD.lt t1, hU _ (hown.lt gz rfl).2 t2, hU _ hm.lt t3, hU _ hmn.lt t4, fun g hg => hU g (hcv.lt g hg).2 (t5 g hg), t6⟩
theorem DevIs.keep (h : DevIs T W d D) (e : ∀ k, k < W.heap.size → T k → W'.heap[k]? = W.heap[k]?) : DevIs T W' d D := by
  obtain ⟨gz, cz, lb, cv, nb, hD, hown, hcv, hm, hmn, t1, t2, t3, t4, t5, t6⟩ := h
  refine ⟨gz, cz, lb, cv, nb, hD.same (e _ hD.lt t1), own_same hown fun g hg => e g (hown.lt g hg).2 ?_, own_same hcv fun g hg => e g (hcv.lt g hg).2 (t5 g hg), hm.same (e _ hm.lt t3), hmn.same (e _ hmn.lt t4), t1, t2, t3, t4, t5, t6⟩
  injection hg with hg
  have : gz = g := hg
  exact this ▸ t2
/-- from block B on, but for those of X -/
def TX (B : Nat) (X : List Nat) : Nat → Prop := fun k => B ≤ k ∧ k ∉ X
/-- a device, in blocks made since w, but for those of X -/
def DvSt (w W : World) (X : List Nat) (d : Nat) (D : Dv) : Prop := DevIs (TX w.heap.size X) W d D ∧ Below w.heap.size w W ∧ ∀ b ∈ X, b < W.heap.size
theorem DvSt.hT {X : List Nat} (h : DvSt w W X d D) : ∀ k, W.heap.size ≤ k → TX w.heap.size X k := fun k hk => ⟨Nat.le_trans h.2.1.size hk, fun hx => by have := h.2.2 k hx; omega⟩
theorem DvSt.next {X : List Nat} (h : DvSt w W X d D) (hI : DevIs (TX w.heap.size X) W' d D') (hF : Fr (TX w.heap.size X) W W') : DvSt w W' X d D' :=
  ⟨hI, h.2.1.trans (hF.below h.2.1.size fun k hk ht => by have := ht.1; omega), fun b hb => Nat.lt_of_lt_of_le (h.2.2 b hb) hF.size⟩
theorem DvSt.on {X : List Nat} (h : DvSt w W X d D) (hb : Below W.heap.size W W') : DvSt w W' X d D := ⟨h.1.below hb, bthen h.2.1 hb, fun b hb' => Nat.lt_of_lt_of_le (h.2.2 b hb') hb.size⟩
theorem DvSt.drew {X : List Nat} (h : DvSt w W X d D) : DvSt w W.drew X d D := h.on (Below.refl _ _).drew
theorem Fr.box {X : List Nat} {B b : Nat} {t : TypeId} {cs : List Value} (hF : Fr (TX B X) W W') (hx : Box W b t cs) (hb : b ∈ X) : Box W' b t cs := hx.same (hF.same hx.lt fun ht => ht.2 hb)
/-- a variable beside the device: made, and laid -/
theorem DvSt.beside {X : List Nat} {w1 w2 : World} (h : DvSt w W X d D) (hB : Below W.heap.size W w1) (hs : w1.heap.size = W.heap.size + 1) (hg : w1.grownBy w2 (some W.heap.size)) : DvSt w w2 (W.heap.size :: X) d D := by
  have h1 : DevIs (TX w.heap.size (W.heap.size :: X)) W d D := h.1.shrink fun k hk ht => ⟨ht.1, fun hx => by rcases List.mem_cons.1 hx with hx | hx; omega; exact ht.2 hx⟩
  have h2 := below_stored hB hg (by omega) (Nat.le_refl _)
  refine ⟨h1.below h2, bthen h.2.1 h2, fun b hb => ?_⟩
  have := h2.size
  have hgs := hg.size
  rcases List.mem_cons.1 hb with rfl | hb
  · omega
  · have := h.2.2 b hb; omega
theorem dread_n {k : Nat} (a : Pl) (h : DvN k D) (hk : k ≤ 500) : DvN (k + 1) (readD D a).2.2 := by
  unfold readD
  split
  · exact h.mono (by omega)
  · split
    · exact h.refused hk
    · exact h.mono (by omega)
theorem DvSt.blk {X : List Nat} (h : DvSt w W X d D) : ∃ zv lb cv nb, DBlk W d D.conv D.soft D.seq D.size D.opn zv lb cv nb D.down D.armed D.ill := by
  obtain ⟨gz, cz, lb, cv, nb, hD, _⟩ := h.1
  exact ⟨_, lb, cv, nb, hD⟩
end
namespace Dev
def aw0 : Dv := newD 2 8 6 8 3 8
def aw1 : Dv := (writeD aw0 (2, 0, onepg 7)).2
def aw2 : Dv := (flushD aw1).2
def aw3 : Dv := (writeD aw2 (2, 1, onepg 8)).2
def aw4 : Dv := (readD aw3 (2, 1)).2.2
def aw5 : Dv := crashD aw4 [] 0 0
def aw6 : Dv := (readD aw5 (2, 0)).2.2
def aw7 : Dv := (readD aw6 (2, 1)).2.2
end Dev
theorem aw_ok : Ok 2 8 6 8 3 := by decide
theorem aw_n0 : DvN 0 aw0 := new_ok aw_ok rfl
theorem aw_n1 : DvN 1 aw1 := write_ok _ (onepg_length 7) aw_n0 (by omega)
theorem aw_n2 : DvN 2 aw2 := flush_ok aw_n1 (by omega)
theorem aw_n3 : DvN 3 aw3 := write_ok _ (onepg_length 8) aw_n2 (by omega)
theorem aw_n4 : DvN 4 aw4 := dread_n _ aw_n3 (by omega)
theorem aw_n5 : DvN 5 aw5 := crash_ok _ _ _ aw_n4 (by omega)
theorem aw_n6 : DvN 6 aw6 := dread_n _ aw_n5 (by omega)
theorem aw_n7 : DvN 7 aw7 := dread_n _ aw_n6 (by omega)
theorem aw_e1 : (writeD aw0 (2, 0, onepg 7)).1 = 0 := by decide +kernel
theorem aw_e2 : (flushD aw1).1 = 0 := by decide +kernel
theorem aw_e3 : (writeD aw2 (2, 1, onepg 8)).1 = 0 := by decide +kernel
theorem aw_e4 : (readD aw3 (2, 1)).2.1 = 0 ∧ (readD aw3 (2, 1)).1 = onepg 8 := by decide +kernel
theorem aw_e6 : (readD aw5 (2, 0)).2.1 = 0 ∧ (readD aw5 (2, 0)).1 = onepg 7 := by decide +kernel
theorem aw_e7 : (readD aw6 (2, 1)).2.1 = 4 ∧ (readD aw6 (2, 1)).1.length = 64 := by decide +kernel
theorem aw_e8 : aw7.ill = 1 := by decide +kernel

end Go.Proofs.YtgnpohkippegpaaGreat
namespace Go.Proofs.YtgnpohkippegpaaGreat
open Go.RowKit Geom Zone Dev
set_option linter.unusedVariables false

/-! the measure stays -/
namespace Dev
def Geo (D D' : Dv) : Prop := D'.conv = D.conv ∧ D'.seq = D.seq
theorem Geo.refl (D : Dv) : Geo D D := ⟨rfl, rfl⟩
theorem Geo.trans {A B C : Dv} (h : Geo A B) (k : Geo B C) : Geo A C := ⟨k.1.trans h.1, k.2.trans h.2⟩
theorem tick_geo (D : Dv) : Geo D (tick D) := by unfold tick; split <;> exact ⟨rfl, rfl⟩
theorem write_geo (D : Dv) (c : Wr) : Geo D (writeD D c).2 := by
  unfold writeD
  split
  · exact Geo.refl _
  · split
    · exact ⟨rfl, rfl⟩
    · exact Geo.trans ⟨rfl, rfl⟩ (tick_geo _)
theorem flush_geo (D : Dv) : Geo D (flushD D).2 := by
  unfold flushD
  split
  · exact Geo.refl _
  · exact Geo.trans ⟨rfl, rfl⟩ (tick_geo _)
theorem arm_geo (D : Dv) (n : Int) : Geo D (armD D n) := by unfold armD; split <;> exact ⟨rfl, rfl⟩
theorem finish_geo (D : Dv) (z : Int) : Geo D (finishD D z).2 := by
  unfold finishD
  split
  · exact Geo.refl _
  · split
    · exact ⟨rfl, rfl⟩
    · exact Geo.trans ⟨rfl, rfl⟩ (tick_geo _)
theorem reset_geo (D : Dv) (z : Int) : Geo D (resetD D z).2 := by
  unfold resetD
  split
  · exact Geo.refl _
  · split
    · exact ⟨rfl, rfl⟩
    · exact Geo.trans ⟨rfl, rfl⟩ (tick_geo _)
theorem crash_geo (D : Dv) (keep : List Int) (s t : Int) : Geo D (crashD D keep s t) := ⟨rfl, rfl⟩
theorem play_geo (D : Dv) (x : AD) : Geo D (playD D x).2 := by
  unfold playD
  split
  · exact reset_geo _ _
  · split
    · exact finish_geo _ _
    · split
      · exact flush_geo _
      · split
        · exact arm_geo _ _
        · split
          · exact crash_geo _ _ _ _
          · exact write_geo _ _
end Dev

section
variable {w W W' : World} {X : List Nat} {d d2 : Nat} {D D2 D' : Dv}
/-- two devices, apart from one another and from X -/
def TwoDev (w W : World) (X : List Nat) (d : Nat) (D : Dv) (d2 : Nat) (D2 : Dv) : Prop :=
  ∃ P1 P2 : Nat → Prop, (∀ k, P1 k → w.heap.size ≤ k ∧ k ∉ X ∧ k < W.heap.size) ∧ (∀ k, P2 k → w.heap.size ≤ k ∧ k ∉ X ∧ k < W.heap.size) ∧ (∀ k, P1 k → ¬ P2 k) ∧ DevIs P1 W d D ∧ DevIs P2 W d2 D2 ∧ Below w.heap.size w W ∧ ∀ b ∈ X, b < W.heap.size
theorem TwoDev.swap (h : TwoDev w W X d D d2 D2) : TwoDev w W X d2 D2 d D := by
  obtain ⟨P1, P2, h1, h2, h3, h4, h5, h6, h7⟩ := h
  exact ⟨P2, P1, h2, h1, fun k hk hk2 => h3 k hk2 hk, h5, h4, h6, h7⟩
/-- what a command of the one may touch -/
theorem TwoDev.step (h : TwoDev w W X d D d2 D2) : ∃ T : Nat → Prop, (∀ k, W.heap.size ≤ k → T k) ∧ DevIs T W d D ∧ (∀ k, T k → w.heap.size ≤ k ∧ k ∉ X) ∧
    ∀ W' D', DevIs T W' d D' → Fr T W W' → TwoDev w W' X d D' d2 D2 := by
  obtain ⟨P1, P2, h1, h2, h3, h4, h5, h6, h7⟩ := h
  refine ⟨fun k => P1 k ∨ W.heap.size ≤ k, fun k hk => .inr hk, h4.shrink fun k _ hk => .inl hk, fun k hk => ?_, fun W' D' hI hF => ?_⟩
  · rcases hk with hk | hk
    · exact ⟨(h1 k hk).1, (h1 k hk).2.1⟩
    · exact ⟨Nat.le_trans h6.size hk, fun hx => by have := h7 k hx; omega⟩
  · have hs := hF.size
    refine ⟨fun k => (P1 k ∨ W.heap.size ≤ k) ∧ k < W'.heap.size, P2, fun k hk => ?_, fun k hk => ⟨(h2 k hk).1, (h2 k hk).2.1, by have := (h2 k hk).2.2; omega⟩, fun k hk hk2 => ?_, hI.shrink fun k hk hk2 => ⟨hk2, hk⟩, h5.keep fun k hk hk2 => hF.same hk fun ht => ?_, h6.trans (hF.below h6.size fun k hk ht => ?_), fun b hb => Nat.lt_of_lt_of_le (h7 b hb) hs⟩
    · refine ⟨?_, ?_, hk.2⟩
      · rcases hk.1 with hk | hk
        · exact (h1 k hk).1
        · exact Nat.le_trans h6.size hk
      · rcases hk.1 with hk | hk
        · exact (h1 k hk).2.1
        · exact fun hx => by have := h7 k hx; omega
    · rcases hk.1 with hk | hk
      · exact h3 k hk hk2
      · have := (h2 k hk2).2.2; omega
    · rcases ht with ht | ht
      · exact h3 k ht hk2
      · omega
    · rcases ht with ht | ht
      · have := (h1 k ht).1; omega
      · have := h6.size; omega
theorem TwoDev.on (h : TwoDev w W X d D d2 D2) (hb : Below W.heap.size W W') : TwoDev w W' X d D d2 D2 := by
  obtain ⟨P1, P2, h1, h2, h3, h4, h5, h6, h7⟩ := h
  have hs := hb.size
  exact ⟨P1, P2, fun k hk => ⟨(h1 k hk).1, (h1 k hk).2.1, by have := (h1 k hk).2.2; omega⟩, fun k hk => ⟨(h2 k hk).1, (h2 k hk).2.1, by have := (h2 k hk).2.2; omega⟩, h3, h4.below hb, h5.below hb, bthen h6 hb, fun b hb' => Nat.lt_of_lt_of_le (h7 b hb') hs⟩
/-- a variable beside them -/
theorem TwoDev.beside {w1 w2 : World} (h : TwoDev w W X d D d2 D2) (hB : Below W.heap.size W w1) (hs : w1.heap.size = W.heap.size + 1) (hg : w1.grownBy w2 (some W.heap.size)) : TwoDev w w2 (W.heap.size :: X) d D d2 D2 := by
  have hb := below_stored hB hg (by omega) (Nat.le_refl _)
  have hgs := hg.size
  obtain ⟨P1, P2, h1, h2, h3, h4, h5, h6, h7⟩ := h
  refine ⟨P1, P2, fun k hk => ?_, fun k hk => ?_, h3, h4.below hb, h5.below hb, bthen h6 hb, fun b hb' => ?_⟩
  · obtain ⟨a1, a2, a3⟩ := h1 k hk
    exact ⟨a1, fun hx => by rcases List.mem_cons.1 hx with hx | hx; omega; exact a2 hx, by omega⟩
  · obtain ⟨a1, a2, a3⟩ := h2 k hk
    exact ⟨a1, fun hx => by rcases List.mem_cons.1 hx with hx | hx; omega; exact a2 hx, by omega⟩
  · rcases List.mem_cons.1 hb' with rfl | hb'
    · omega
    · have := h7 b hb'; omega
theorem TwoDev.less {b : Nat} (h : TwoDev w W (b :: X) d D d2 D2) : TwoDev w W X d D d2 D2 := by
  obtain ⟨P1, P2, h1, h2, h3, h4, h5, h6, h7⟩ := h
  exact ⟨P1, P2, fun k hk => ⟨(h1 k hk).1, fun hx => (h1 k hk).2.1 (List.mem_cons_of_mem _ hx), (h1 k hk).2.2⟩, fun k hk => ⟨(h2 k hk).1, fun hx => (h2 k hk).2.1 (List.mem_cons_of_mem _ hx), (h2 k hk).2.2⟩, h3, h4, h5, h6, fun b hb => h7 b (List.mem_cons_of_mem _ hb)⟩
/-- a clone, beside the one -/
theorem DvSt.two (h : DvSt w W X d D) (hI : DevIs (fun k => W.heap.size ≤ k) W' d2 D2) (hb : Below W.heap.size W W') : TwoDev w W' X d D d2 D2 := by
  have hs := hb.size
  refine ⟨fun k => TX w.heap.size X k ∧ k < W.heap.size, fun k => W.heap.size ≤ k ∧ k < W'.heap.size, fun k hk => ⟨hk.1.1, hk.1.2, by omega⟩, fun k hk => ⟨Nat.le_trans h.2.1.size hk.1, fun hx => by have := h.2.2 k hx; omega, hk.2⟩, fun k hk hk2 => by omega, (h.1.shrink (U := fun k => TX w.heap.size X k ∧ k < W.heap.size) fun k hk ht => ⟨ht, hk⟩).below hb, hI.shrink fun k hk hk2 => ⟨hk2, hk⟩, bthen h.2.1 hb, fun b hb' => Nat.lt_of_lt_of_le (h.2.2 b hb') hs⟩
theorem TwoDev.blk (h : TwoDev w W X d D d2 D2) : ∃ A n c cv, cv = .slice A n c ∧ n = D.cache.length ∧ ∃ zv lb nb, DBlk W d D.conv D.soft D.seq D.size D.opn zv lb cv nb D.down D.armed D.ill := by
  obtain ⟨P1, P2, h1, h2, h3, h4, h5, h6, h7⟩ := h
  obtain ⟨gz, cz, lb, cv, nb, hD, hown, hcv, _⟩ := h4
  obtain ⟨A, c, rfl⟩ := row_slice hcv
  exact ⟨A, _, c, _, rfl, rfl, _, lb, nb, hD⟩
theorem Fr.boxT {T : Nat → Prop} {b : Nat} {t : TypeId} {cs : List Value} (hF : Fr T W W') (hx : Box W b t cs) (hT : ∀ k, T k → w.heap.size ≤ k ∧ k ∉ X) (hb : b ∈ X) : Box W' b t cs := hx.same (hF.same hx.lt fun ht => (hT b ht).2 hb)
end

theorem flat_get {α : Type} (f : α → List Value) (m : Nat) : ∀ (xs : List α) (k j : Nat) (x : α), (∀ y ∈ xs, (f y).length = m) → xs[k]? = some x → j < m → (xs.flatMap f)[k * m + j]? = (f x)[j]?
  | [], k, j, x, _, h, _ => by simp at h
  | y :: xs, 0, j, x, hl, h, hj => by
    obtain rfl : y = x := by simpa using h
    rw [Nat.zero_mul, Nat.zero_add, List.flatMap_cons, List.getElem?_append_left (by rw [hl y (by simp)]; exact hj)]
  | y :: xs, k + 1, j, x, hl, h, hj => by
    have := flat_get f m xs k j x (fun z hz => hl z (List.mem_cons_of_mem _ hz)) (by simpa using h) hj
    rw [List.flatMap_cons, List.getElem?_append_right (by rw [hl y (by simp), Nat.add_mul]; omega), hl y (by simp), show (k + 1) * m + j - m = k * m + j by rw [Nat.add_mul]; omega, this]
/-- an element of many cells is read at once -/
theorem big_elem {α : Type} (P : Program) {w : World} {B : Nat} {A : Option Addr} {f : α → List Value} {xs : List α} {m : Nat} (hr : Rd w B A (xs.flatMap f)) (hl : ∀ y ∈ xs, (f y).length = m) (hm : 0 < m) (k : Nat) (x : α) (hx : xs[k]? = some x) :
    ∃ ad, A = some ad ∧ (loadCellsFrom (ad.add (k * m)) 0 m #[]).run P w = .ok (f x).toArray w := by
  have hxm : x ∈ xs := List.mem_of_getElem? hx
  have h0 : 0 < (f x).length := by rw [hl x hxm]; exact hm
  obtain ⟨ad, hA, _, _⟩ := hr.at (k := k * m + 0) (u := (f x)[0]) (by rw [flat_get f m xs k 0 x hl hx hm]; simp [h0])
  refine ⟨ad, hA, big_load P _ (f x) m (hl x hxm) w fun j v hj => ?_⟩
  have hjm : j < m := by
    have := (List.getElem?_eq_some_iff.1 hj).1
    rw [hl x hxm] at this
    exact this
  obtain ⟨ad', hA', _, hc⟩ := hr.at (k := k * m + j) (u := v) (by rw [flat_get f m xs k j x hl hx hjm]; exact hj)
  obtain rfl : ad = ad' := by rw [hA] at hA'; injection hA'
  rw [addr_add_add]
  exact hc
end Go.Proofs.YtgnpohkippegpaaGreat
namespace Go.Proofs.YtgnpohkippegpaaGreat
open Go.RowKit Geom Zone Dev
set_option linter.unusedVariables false

/-- what an act is, as it is handed in -/
structure AIn (w : World) (x : AD) : Prop where
  k0 : 0 ≤ x.k
  k1 : x.k < 256
  a1 : W64 x.a.1
  a2 : W64 x.a.2
  p : x.p.length = 64
  n : W64 x.n
  kr : Rd w w.heap.size x.keepA (ints x.keep)
  kl : x.keep.length = x.kn
  cap : x.kn ≤ x.kc
  mc : x.kc ≤ maxLen
  k64 : ∀ y ∈ x.keep, W64 y
  s0 : 0 ≤ x.soft0 ∧ x.soft0 < 18446744073709551616
  t : W64 x.tear
theorem keep_far {w : World} {A : Option Addr} {xs : List Value} {T : Nat → Prop} (hr : Rd w w.heap.size A xs) (hT : ∀ k, T k → w.heap.size ≤ k) : ∀ ad, A = some ad → xs ≠ [] → ¬ T ad.block := by
  intro ad hA hx ht
  obtain ⟨ad', hA', hlt, _⟩ := hr hx
  rw [hA] at hA'
  injection hA' with hA'
  subst hA'
  have := hT _ ht
  omega
theorem AIn.at {w W : World} {x : AD} {T : Nat → Prop} (h : AIn w x) (hb : Below w.heap.size w W) (hT : ∀ k, T k → w.heap.size ≤ k) : AOk T W x :=
  ⟨h.k0, h.k1, h.a1, h.a2, h.p, h.n, (h.kr.below hb).more hb.size, h.kl, h.cap, h.mc, h.k64, keep_far h.kr hT⟩
end Go.Proofs.YtgnpohkippegpaaGreat
namespace Go.Proofs.YtgnpohkippegpaaGreat
open Go.RowKit Geom Zone Dev
open Go.ChangeShapes Go.WideShapes
set_option linter.unusedVariables false

set_option maxRecDepth 100000 in
theorem open_geo64 {H : Type} {enc : TypeId × Value → H} {w : World} {base b0 : Nat} {r : Reach} {sp : Nat → Bool} {held : Bool} {v : Value} {d : DataW H} {ps : List MemPlace}
    (hu : Value.okWide Tryz.prog w r b0 23 v) (h : DataW.Trod enc Tryz.prog w base sp held 23 v d ps) :
    ∃ conv soft seq size opn : Int, v = .agg #[.int .i64 conv, .int .i64 soft, .int .i64 seq, .int .i64 size, .int .i64 opn] ∧ W64 conv ∧ W64 soft ∧ W64 seq ∧ W64 size ∧ W64 opn := by
  obtain ⟨cs, rfl, hs⟩ := has_agg (s := .pair 1 (.int .i64) (.pair 1 (.int .i64) (.pair 1 (.int .i64) (.pair 1 (.int .i64) (.pair 1 (.int .i64) .nil))))) 3 (by kernel_rfl) h hu (.inl ⟨_, Tryz.underlying23⟩)
  obtain ⟨_, _, rfl, _, ⟨conv, rfl, h1⟩, _, _, rfl, _, ⟨soft, rfl, h2⟩, _, _, rfl, _, ⟨seq, rfl, h3⟩, _, _, rfl, _, ⟨size, rfl, h4⟩, _, _, rfl, _, ⟨opn, rfl, h5⟩, rfl⟩ := hs
  exact ⟨conv, soft, seq, size, opn, rfl, h1, h2, h3, h4, h5⟩

abbrev shW : Sh := .pair 1 (.slice 1 (.int .i64)) (.pair 1 (.int .u64) (.pair 1 (.int .i64) .nil))
theorem has_wreck {w : World} {cs : List Value} (h : Has shW w cs) : ∃ (A : Option Addr) (n c : Nat) (keep : List Int) (s t : Int), cs = [.slice A n c, .int .u64 s, .int .i64 t] ∧ Rd w w.heap.size A (ints keep) ∧ keep.length = n ∧ n ≤ c ∧ c ≤ maxLen ∧ (∀ y ∈ keep, W64 y) ∧ W64 t ∧ (0 ≤ s ∧ s < 18446744073709551616) := by
  obtain ⟨_, _, rfl, _, h1, _, _, rfl, _, ⟨s, rfl, hs⟩, _, _, rfl, _, ⟨t, rfl, ht⟩, rfl⟩ := h
  obtain ⟨A, n, c, zs, rfl, h2, h3, h4, h5, h6⟩ := has_slice_ints h1
  simp [Lit.wf, IntKind.min, IntKind.max, IntKind.signed, IntKind.bits] at hs
  exact ⟨A, n, c, zs, s, t, rfl, h5, h4, h2, h3, h6, ht, by omega⟩
abbrev shP : Sh := .rep 64 1 (.int .u8)
abbrev shA : Sh := .pair 1 (.int .u8) (.pair 2 (.pair 1 (.int .i64) (.pair 1 (.int .i64) .nil)) (.pair 64 shP (.pair 1 (.int .i64) (.pair 3 shW .nil))))
theorem has_act {w : World} {cs : List Value} (h : Has shA w cs) : ∃ x : AD, cs = acs x ∧ AIn w x := by
  obtain ⟨_, _, rfl, _, ⟨k, rfl, hk⟩, _, _, rfl, _, ⟨_, _, rfl, _, ⟨a1, rfl, h1⟩, _, _, rfl, _, ⟨a2, rfl, h2⟩, rfl⟩, _, _, rfl, _, hp, _, _, rfl, _, ⟨n, rfl, hn⟩, _, _, rfl, _, hw, rfl⟩ := h
  obtain ⟨p, hpl, rfl, _⟩ := has_ints hp
  obtain ⟨A, kn, kc, keep, s, t, rfl, w1, w2, w3, w4, w5, w6, w7⟩ := has_wreck hw
  have hb := wf_byte hk
  exact ⟨⟨k, (a1, a2), p, n, A, kn, kc, keep, s, t⟩, by simp [acs, bs], hb.1, by show k < 256; omega, h1, h2, hpl, hn, w1, w2, w3, w4, w5, w7, w6⟩
theorem rows_acts {w : World} : ∀ rows : List (List Value), (∀ r ∈ rows, r.length = 71 ∧ Has shA w r) → ∃ xs : List AD, xs.length = rows.length ∧ rows.flatten = xs.flatMap acs ∧ ∀ x ∈ xs, AIn w x
  | [], _ => ⟨[], rfl, rfl, by simp⟩
  | r :: rows, h => by
    obtain ⟨xs, h1, h2, h3⟩ := rows_acts rows fun x hx => h x (List.mem_cons_of_mem _ hx)
    obtain ⟨x, hx, hi⟩ := has_act (h r List.mem_cons_self).2
    exact ⟨x :: xs, by simp [h1], by rw [List.flatten_cons, h2, hx]; rfl, fun y hy => by rcases List.mem_cons.1 hy with rfl | hy; exact hi; exact h3 y hy⟩
theorem rows_pages {w : World} : ∀ rows : List (List Value), (∀ r ∈ rows, r.length = 64 ∧ Has shP w r) → ∃ xs : List (List Int), xs.length = rows.length ∧ rows.flatten = xs.flatMap bs ∧ ∀ x ∈ xs, x.length = 64
  | [], _ => ⟨[], rfl, rfl, by simp⟩
  | r :: rows, h => by
    obtain ⟨xs, h1, h2, h3⟩ := rows_pages rows fun x hx => h x (List.mem_cons_of_mem _ hx)
    obtain ⟨p, hpl, hx, _⟩ := has_ints (h r List.mem_cons_self).2
    exact ⟨p :: xs, by simp [h1], by rw [List.flatten_cons, h2, hx]; rfl, fun y hy => by rcases List.mem_cons.1 hy with rfl | hy; exact hpl; exact h3 y hy⟩
set_option maxRecDepth 100000 in
theorem open_pages {H : Type} {enc : TypeId × Value → H} {w : World} {base b0 : Nat} {r : Reach} {sp : Nat → Bool} {held : Bool} {v : Value} {d : DataW H} {ps : List MemPlace}
    (hu : Value.okWide Tryz.prog w r b0 40 v) (h : DataW.Trod enc Tryz.prog w base sp held 40 v d ps) :
    ∃ (A : Option Addr) (n cap : Nat) (xs : List (List Int)), v = .slice A n cap ∧ n ≤ maxLen ∧ xs.length = n ∧ Rd w w.heap.size A (xs.flatMap bs) ∧ ∀ x ∈ xs, x.length = 64 := by
  obtain ⟨a, len, cap, rfl⟩ := okWide_slice Tryz.underlying40 hu
  have hs := has_of (s := .slice 64 shP) 4 (by kernel_rfl) h
  obtain ⟨A, n, c, rows, h1, h2, h3, h4, h5, h6⟩ := hs
  obtain ⟨xs, h7, h8, h9⟩ := rows_pages rows h6
  have h10 : [Value.slice a len cap] = [.slice A n c] := h1
  obtain ⟨rfl, rfl, rfl⟩ : a = A ∧ len = n ∧ cap = c := by simpa using h10
  exact ⟨a, len, cap, xs, rfl, by omega, by omega, by rw [← h8]; exact h5, h9⟩
end Go.Proofs.YtgnpohkippegpaaGreat

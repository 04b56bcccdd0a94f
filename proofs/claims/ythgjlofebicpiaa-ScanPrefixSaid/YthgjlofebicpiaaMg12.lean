/-
  RecD Tail
-/
import Derived.Test.YthgjlofebicpiaaMg11
import Derived.Test.YthgjlofebicpiaaMg07
import Derived.Test.YthgjlofebicpiaaMg02
import Derived.Laws.CopyOwn
import Derived.Deep.RegionLaw
import Derived.StillTail
/-
  Package rec: Lay.
-/
namespace Go.Proofs.Ythgjlofebicpiaa
open Go.RowKit Word Crc Rec
set_option linter.unusedVariables false

namespace Rec
/-- the sector, as Lay's stores make it -/
def stage (r : Rc) : Nat → List Int
  | 0 => pg0
  | 1 => pg0.set 0 r.kind
  | 2 => put (pg0.set 0 r.kind) 1 8 r.epoch
  | 3 => put (put (pg0.set 0 r.kind) 1 8 r.epoch) 9 8 r.seq
  | 4 => put (put (put (pg0.set 0 r.kind) 1 8 r.epoch) 9 8 r.seq) 17 4 r.block
  | _ => put (put (put (put (pg0.set 0 r.kind) 1 8 r.epoch) 9 8 r.seq) 17 4 r.block) 21 4 r.count
end Rec
theorem put_mid (xs ys : List Int) (j k n : Nat) (y : Int) (hz : xs.length = j) : put (xs ++ List.replicate (k + n) 0) j k y = xs ++ le k y ++ List.replicate n 0 := by
  subst hz
  unfold put
  rw [List.take_left, ← List.drop_drop, List.drop_left, List.drop_replicate, List.append_assoc]
  congr 3
  omega
theorem stage5 (r : Rc) : stage r 5 = [r.kind] ++ le 8 r.epoch ++ le 8 r.seq ++ le 4 r.block ++ le 4 r.count ++ List.replicate 39 0 := by
  show put (put (put (put (pg0.set 0 r.kind) 1 8 r.epoch) 9 8 r.seq) 17 4 r.block) 21 4 r.count = _
  rw [show pg0.set 0 r.kind = [r.kind] ++ List.replicate (8 + 55) 0 from rfl, put_mid _ [] 1 8 55 _ rfl]
  rw [show (55 : Nat) = 8 + 47 from rfl, put_mid _ [] 9 8 47 _ (by simp [le_length])]
  rw [show (47 : Nat) = 4 + 43 from rfl, put_mid _ [] 17 4 43 _ (by simp [le_length])]
  rw [show (43 : Nat) = 4 + 39 from rfl, put_mid _ [] 21 4 39 _ (by simp [le_length])]
theorem stage6 (r : Rc) (h : r.data.length = 32) : (stage r 5).take 25 ++ (r.data ++ (stage r 5).drop 57) = front r ++ List.replicate 4 0 := by
  have hl : ([r.kind] ++ le 8 r.epoch ++ le 8 r.seq ++ le 4 r.block ++ le 4 r.count).length = 25 := by simp [le_length]
  have hf : front r ++ List.replicate 4 0 = ([r.kind] ++ le 8 r.epoch ++ le 8 r.seq ++ le 4 r.block ++ le 4 r.count) ++ (r.data ++ List.replicate 7 0) := by
    unfold front
    simp only [List.append_assoc]
    rfl
  rw [stage5, hf]
  generalize [r.kind] ++ le 8 r.epoch ++ le 8 r.seq ++ le 4 r.block ++ le 4 r.count = xs at hl
  rw [List.take_left' hl, show (57 : Nat) = 25 + 32 from rfl, ← List.drop_drop, List.drop_left' hl, List.drop_replicate]
theorem stage7 (r : Rc) (h : r.data.length = 32) : put (front r ++ List.replicate 4 0) 60 4 ((Crc.sum (front r) : Nat) : Int) = layL r := by
  rw [put_end _ _ 60 4 _ (front_length r h) (by simp)]
  rfl
theorem sum_front (r : Rc) (h : r.data.length = 32) : (front r ++ List.replicate 4 (0 : Int)).take 60 = front r := List.take_left' (front_length r h)

/-- what stands in memory while Lay works -/
def LaySt (w W : World) (r : Rc) (p : List Int) : Prop :=
  Box W w.heap.size 50 (rcs r) ∧ Box W (w.heap.size + 1) 62 (bs pg0) ∧ Box W (w.heap.size + 1 + 1) 62 (bs p) ∧ Below w.heap.size w W ∧ p.length = 64
theorem LaySt.start {w W : World} {r : Rc} (y0 : Box W w.heap.size 50 (rcs r)) (y1 : Box W (w.heap.size + 1) 62 (bs pg0)) (y2 : Box W (w.heap.size + 1 + 1) 62 (bs pg0)) (hB : Below w.heap.size w W) :
    LaySt w (W.setCell ⟨w.heap.size + 1 + 1, 0, none⟩ (.int .u8 r.kind)) r (stage r 1) := by
  have e : ∀ x, x ≠ w.heap.size + 1 + 1 → (W.setCell ⟨w.heap.size + 1 + 1, 0, none⟩ (.int .u8 r.kind)).heap[x]? = W.heap[x]? := fun x hx => heap_setCell_other _ _ _ _ hx
  refine ⟨y0.same (e _ (by omega)), y1.same (e _ (by omega)), ?_, hB.setCell (by show w.heap.size ≤ w.heap.size + 1 + 1; omega) _, by simp [stage]⟩
  have := y2.set 0 (.int .u8 r.kind)
  rwa [← bs_set] at this
theorem LaySt.begin {w w1 w2 w3 : World} {r : Rc} (x0 : Box w1 w.heap.size 50 (rcs r)) (hB1 : Below w.heap.size w w1) (hs1 : w1.heap.size = w.heap.size + 1) (x1 : Box w2 w1.heap.size 62 (bs pg0)) (hB2 : Below w1.heap.size w1 w2) (hs2 : w2.heap.size = w1.heap.size + 1)
    (x2 : Box w3 w2.heap.size 62 (bs pg0)) (hB3 : Below w2.heap.size w2 w3) :
    LaySt w (w3.setCell ⟨w.heap.size + 1 + 1, 0, none⟩ (.int .u8 r.kind)) r (stage r 1) ∧ w3.cell? ⟨w.heap.size, 0, none⟩ = some (.int .i64 r.kind) ∧ w3.cell? ⟨w.heap.size + 1 + 1, 0, none⟩ = some (.int .u8 0) ∧ w3.frozen? ⟨w.heap.size + 1 + 1, 0, none⟩ = false ∧
      (w3.setCell ⟨w.heap.size + 1 + 1, 0, none⟩ (.int .u8 r.kind)).cell? ⟨w.heap.size, 1, none⟩ = some (.int .i64 r.epoch) := by
  rw [hs2, hs1] at x2
  rw [hs1] at x1
  have y0 := (x0.below hB2 (by omega)).below hB3 (by omega)
  have L := LaySt.start (r := r) y0 (x1.below hB3 (by omega)) x2 (bthen (bthen hB1 hB2) hB3)
  exact ⟨L, y0.rc.1, (x2.cell 0).trans rfl, x2.frozen 0, L.1.rc.2.1⟩
theorem LaySt.put {w W W' : World} {r : Rc} {p p' : List Int} (h : LaySt w W r p) (hb : Box W' (w.heap.size + 1 + 1) 62 (bs p')) (hg : W.grownBy W' (some (w.heap.size + 1 + 1))) (hl : p'.length = 64) : LaySt w W' r p' :=
  ⟨h.1.grown hg (by omega), h.2.1.grown hg (by omega), hb, below_stored h.2.2.2.1 hg h.2.2.2.1.size (by omega), hl⟩
set_option maxRecDepth 100000 in
set_option maxHeartbeats 2000000 in
theorem lay_any (r : Rc) (w : World) (hk : Ok r) (hi : In r) :
    Calls Try.prog 73 #[.agg (rcs r).toArray] w fun e w' => e = .returned (.agg (bs (layL r)).toArray) ∧ Below w.heap.size w w' := by
  have n1 := hk.1
  have n2 := hk.2.1
  have hkd := hk.kind
  have hbl := hk.block
  have hct := hk.count
  have hdl := hi.1
  have ho := front_octets hk hi.2
  have k1 := hkd.1
  have k2 := hkd.2
  have HI := Lib.hid hi
  have HN := Lib.hid (And.intro n1 n2)
  have HBC := Lib.hid (And.intro hbl hct)
  have HO := Lib.hid ho
  clear hk hi n1 n2 hkd hbl hct hdl ho
  go_enter Try.func73, Try.ntmps73
  go_wp2_with (first
    | (with_reducible refine wpList_rc_box (o := ⟨some 1, .box _ _, _, _, _, _⟩) rfl _ rfl r rfl ?_; intro w1 x0 hB1 hs1)
    | (with_reducible refine wpList_pg_alloc (o := ⟨some 2, .alloc _, _, _, _, _⟩) rfl rfl ?_; intro w2 x1 hB2 hs2)
    | (with_reducible refine wpList_pg_alloc (o := ⟨some 3, .alloc _, _, _, _, _⟩) rfl rfl ?_; intro w3 x2 hB3 hs3; obtain ⟨L, c0, p0, f0, c⟩ := LaySt.begin x0 hB1 hs1 x1 hB2 hs2 x2 hB3; rw [hs2, hs1]; clear hs1 hs2 hs3 x0 x1 x2 hB1 hB2 hB3)
    | fail)
  clear c0 p0 f0
  generalize w3.setCell _ _ = W at L c ⊢
  refine (recput_any (w.heap.size + 1 + 1) 1 8 r.epoch (stage r 1) W (by omega) (by omega) (by omega) L.2.2.2.2 (by have := HN.out; have := HBC.out; omega) L.2.2.1).mono ?_
  rintro e w4 ⟨rfl, hb, hg⟩
  have L' : LaySt w w4 r (stage r 2) := L.put hb hg ((put_length _ _ _ _ (Nat.le_trans (show 1 + 8 ≤ 64 by decide) (Nat.le_of_eq L.2.2.2.2.symm))).trans L.2.2.2.2)
  clear c hb hg L
  rename LaySt w w4 r _ => L
  generalize w4 = W at L ⊢
  have c := L.1.rc.2.2.1
  go_wp2_with fail
  refine (recput_any (w.heap.size + 1 + 1) 9 8 r.seq (stage r 2) W (by omega) (by omega) (by omega) L.2.2.2.2 (by have := HN.out; have := HBC.out; omega) L.2.2.1).mono ?_
  rintro e w4 ⟨rfl, hb, hg⟩
  have L' : LaySt w w4 r (stage r 3) := L.put hb hg ((put_length _ _ _ _ (Nat.le_trans (show 9 + 8 ≤ 64 by decide) (Nat.le_of_eq L.2.2.2.2.symm))).trans L.2.2.2.2)
  clear c hb hg L
  rename LaySt w w4 r _ => L
  generalize w4 = W at L ⊢
  have c := L.1.rc.2.2.2.1
  go_wp2_with fail
  refine (recput_any (w.heap.size + 1 + 1) 17 4 r.block (stage r 3) W (by omega) (by omega) (by omega) L.2.2.2.2 (by have := HN.out; have := HBC.out; omega) L.2.2.1).mono ?_
  rintro e w4 ⟨rfl, hb, hg⟩
  have L' : LaySt w w4 r (stage r 4) := L.put hb hg ((put_length _ _ _ _ (Nat.le_trans (show 17 + 4 ≤ 64 by decide) (Nat.le_of_eq L.2.2.2.2.symm))).trans L.2.2.2.2)
  clear c hb hg L
  rename LaySt w w4 r _ => L
  generalize w4 = W at L ⊢
  have c := L.1.rc.2.2.2.2
  go_wp2_with fail
  refine (recput_any (w.heap.size + 1 + 1) 21 4 r.count (stage r 4) W (by omega) (by omega) (by omega) L.2.2.2.2 (by have := HN.out; have := HBC.out; omega) L.2.2.1).mono ?_
  rintro e w4 ⟨rfl, hb, hg⟩
  have L' : LaySt w w4 r (stage r 5) := L.put hb hg ((put_length _ _ _ _ (Nat.le_trans (show 21 + 4 ≤ 64 by decide) (Nat.le_of_eq L.2.2.2.2.symm))).trans L.2.2.2.2)
  clear c hb hg L
  rename LaySt w w4 r _ => L
  generalize w4 = W at L ⊢
  go_wp2_with fail
  have hsp : splice (bs (stage r 5)) 25 (bs r.data) = bs (front r ++ List.replicate 4 0) := by
    unfold splice
    rw [bs_length, HI.out.1, ← stage6 r HI.out.1, bs_append, bs_append, bs_take, bs_drop]
  have HC := Lib.hid (And.intro L.2.2.1 (And.intro (L.1.range 5 (bs r.data) fun j v hj => by rw [show 5 + j = j + 1 + 1 + 1 + 1 + 1 by omega]; exact hj) (And.intro L hsp)))
  have HLn := Lib.hid (show (bs r.data).length = 32 ∧ (bs (stage r 5)).length = 64 from ⟨by rw [bs_length, HI.out.1], by rw [bs_length]; exact L.2.2.2.2⟩)
  clear L hsp
  go_region_law (refine step_copy_splice rfl _ _ _ _ rfl 5 Try.underlying41 (by kernel_rfl) (some ⟨w.heap.size + 1 + 1, 25, none⟩) (some ⟨w.heap.size, 5, none⟩) 39 39 32 32 rfl rfl (w.heap.size + 1 + 1) 25 (bs (stage r 5)) 62 HC.out.1 (bs r.data) (by rw [HLn.out.1]; rfl) (fun _ => ⟨rfl, _, rfl, fun j v hj => by rw [Addr.add_mid]; exact HC.out.2.1 j v hj⟩) (by rw [HLn.out.1, HLn.out.2]; decide) (fun u hu => bs_one _ _ hu) (w.heap.size + 1 + 1) W (Below.refl _ _).drew (Nat.le_refl _) ?_; intro w6 hg6 hb6)
  have L : LaySt w w6 r (front r ++ List.replicate 4 0) := by
    have h := HC.out.2.2.1
    have hz := HLn.out
    refine ⟨h.1.below hb6 (by omega), h.2.1.below hb6 (by omega), ?_, h.2.2.2.1.trans (hb6.mono (by omega)), by rw [List.length_append, front_length r HI.out.1]; rfl⟩
    have := hg6.out
    rw [HC.out.2.2.2] at this
    exact this
  clear HC HLn hg6 hb6
  have hrd : Rd w6 w6.heap.size (some ⟨w.heap.size + 1 + 1, 0, none⟩) (bs (front r)) := by
    have := (Rd.own (L.2.2.1.own (n := 64) (by rw [bs_length, L.2.2.2.2]) (by decide) 0 (Nat.zero_le _))).front (k := 60)
    rwa [← bs_take, sum_front r HI.out.1] at this
  have hsl := sum_lt HO.out
  have HS := Lib.hid (stage7 r HI.out.1)
  have HSum := Lib.hid (sum_any (some ⟨w.heap.size + 1 + 1, 0, none⟩) 60 64 (front r) w6 (by decide) (front_length r HI.out.1) HO.out _ hrd)
  clear hrd
  generalize Crc.sum (front r) = sm at *
  go_wp2_with fail
  refine HSum.out.mono ?_
  rintro e w7 ⟨rfl, rfl⟩
  clear HSum
  go_wp2_with fail
  refine (recput_any (w.heap.size + 1 + 1) 60 4 sm (front r ++ List.replicate 4 0) w6 (by omega) (by omega) (by omega) L.2.2.2.2 (by omega) L.2.2.1).mono ?_
  rintro e w8 ⟨rfl, hb, hg⟩
  have L' : LaySt w w8 r (layL r) := by
    rw [HS.out] at hb
    exact L.put hb hg (layL_length r HI.out.1)
  clear L hb hg HS hsl
  obtain ⟨m8, hm8, hsz8⟩ := big_size (P := Try.prog) (t := 62) (s := 64) (by kernel_rfl)
  have hld := big_load0 Try.prog (w.heap.size + 1 + 1) 0 (bs (layL r)) m8 (by rw [bs_length, L'.2.2.2.2, hm8]) _ L'.2.2.1.range0
  have HL := Lib.hid L'
  have HP := Lib.hid L'.2.2.2.2
  have HR := Lib.hid L'.2.1
  have HM := Lib.hid hm8
  have hm80 : ¬ m8 = 0 := by omega
  clear L' hm8
  go_wp2_with (first
    | (with_reducible refine wpList_pg_store (o := ⟨none, .store _ _ _, _, _, _, _⟩) rfl _ _ rfl (w.heap.size + 1) (layL r) pg0 HP.out rfl rfl rfl HR.out ?_; intro w9 hb9 hg9 _)
    | fail)
  have hldF := big_load0 Try.prog (w.heap.size + 1) 0 (bs (layL r)) m8 (by rw [bs_length, HL.out.2.2.2.2, HM.out]) _ hb9.range0
  exact bodyPost_ret (v := .agg (bs (layL r)).toArray) (by simp [results, Try.results73, go_sem, hsz8, hldF]) rfl ⟨rfl, below_stored HL.out.2.2.2.1 hg9 HL.out.2.2.2.1.size (by omega)⟩
end Go.Proofs.Ythgjlofebicpiaa

/-
  A region that draws its order, whose operations but for a forced tail read cells that stay, with callees that make memory: one walk of the head in whatever world of a class, then the tail in the text's order. Nothing here speaks of one program.
-/
namespace Go.Proofs.Ythgjlofebicpiaa
open Go.RowKit Go
set_option linter.unusedVariables false

section
variable {P : Program} {ops : Array Oper} {md : Region.Mode} {C : World → Prop}

/-- the head, in whatever order; 'L' is asked where it ends -/
def headQ (P : Program) (md : Region.Mode) (ops : Array Oper) (C : World → Prop) (n : Nat) (L : Array Bool → Act → Prop) : Nat → Array Bool → Act → Prop
  | 0, listed, a => L listed a
  | f + 1, listed, a => Region.ready md ops listed ≠ [] ∧ ∀ i ∈ Region.ready md ops listed, i < n ∧ qOp P ops C i (headQ P md ops C n L f (listed.setIfInBounds i true)) a

theorem any_of_headQ {n g : Nat} {L : Array Bool → Act → Prop} {Q' : Exit → Act → World → Prop} (hL : ∀ listed a w, C w → L listed a → wpAny P md ops Q' g listed a w) :
    ∀ (f : Nat) (listed : Array Bool) (a : Act) (w : World), C w → headQ P md ops C n L f listed a → wpAny P md ops Q' (f + g) listed a w
  | 0, listed, a, w, hw, h => by rw [Nat.zero_add]; exact hL _ _ _ hw h
  | f + 1, listed, a, w, hw, h => by
    rw [show f + 1 + g = (f + g) + 1 by omega]
    exact ⟨fun h0 => absurd h0 h.1, fun i hi => wpOp_of_qOp hw (fun a' w' hw' h' => any_of_headQ hL f _ a' w' hw' h') (h.2 i hi).2⟩

theorem headQ_first {n i : Nat} {oi : Oper} {v : Value} {L : Array Bool → Act → Prop} (hi : ops[i]? = some oi) (hsel : ∀ (j : Nat) (o : Oper) cs b, ops[j]? = some o → o.op ≠ .select cs b)
    (hs : Region.sinkB md ops n = true) (hc : Region.chainB md ops n = true) (hn : n < ops.size) (hin : i < n) (hdone : ∀ listed a, L listed a → ∀ j ∈ Region.ready md ops listed, n ≤ j) :
    ∀ (f : Nat) (listed : Array Bool) (a : Act), HeadInv md ops n listed →
      (∀ j oj, ops[j]? = some oj → j ≠ i → listed.getD j true = false → (∀ e ∈ oj.after, Region.binds md e = true → e.on ≠ i) → oi.apart ops oj = true) →
      i ∈ Region.ready md ops listed → YieldsIn P ops C oi v a → headQ P md ops C n L f (listed.setIfInBounds i true) (a.put oi.dst v) → headQ P md ops C n L (f + 1) listed a := by
  intro f
  induction f with
  | zero =>
    intro listed a inv _ hr hy H
    have hun := (mem_ready.1 hr).1
    refine ⟨fun h => (by rw [h] at hr; cases hr), fun j hj => ?_⟩
    have hjn : j < n := Nat.lt_of_not_le fun h => tail_waits hs hc hn inv _ i rfl hin hun j h hj
    refine ⟨hjn, ?_⟩
    by_cases hji : j = i
    · subst hji; exact hy.qOp hi H
    · have := hdone _ _ H j (ready_mono hj hji)
      omega
  | succ f ih =>
    intro listed a inv hfree hr hy H
    have hun := (mem_ready.1 hr).1
    refine ⟨fun h => (by rw [h] at hr; cases hr), fun j hj => ?_⟩
    have hjn : j < n := Nat.lt_of_not_le fun h => tail_waits hs hc hn inv _ i rfl hin hun j h hj
    refine ⟨hjn, ?_⟩
    by_cases hji : j = i
    · subst hji; exact hy.qOp hi H
    · have h1 := (H.2 j (ready_mono hj hji)).2
      obtain ⟨hjun, oj, hoj, hall⟩ := mem_ready.1 hj
      have hnot : ∀ e ∈ oj.after, Region.binds md e = true → e.on ≠ i := fun e he hb heq => by
        have h1 := hall e he hb
        rw [heq, getD_both hun] at h1
        cases h1
      have h2 := qOp_put hoj (hfree j oj hoj hji hjun hnot) (fun cs b => hsel i oi cs b hi) (fun cs b => hsel j oj cs b hoj) hy h1
      have hfree' : ∀ k ok, ops[k]? = some ok → k ≠ i → (listed.setIfInBounds j true).getD k true = false →
          (∀ e ∈ ok.after, Region.binds md e = true → e.on ≠ i) → oi.apart ops ok = true := fun k ok hk hki hun hno => by
        refine hfree k ok hk hki ?_ hno
        by_cases hjk : j = k
        · subst hjk; exact hjun
        · rw [getD_set_ne true hjk] at hun; exact hun
      refine qOp_mono (fun a' h3 => ih (listed.setIfInBounds j true) a' (inv.set hj hjn) hfree' (ready_mono hr (Ne.symm hji)) h3.1 ?_) h2
      rw [Array.setIfInBounds_comm _ _ hji]
      exact h3.2

theorem headQ_lex {n g : Nat} {Lq : Act → Prop} (hsel : Region.noSelect ops = true) (hs : Region.sinkB md ops n = true) (hc : Region.chainB md ops n = true) (hn : n < ops.size) :
    ∀ (l : List Oper) (k : Nat) (listed : Array Bool) (a : Act), (∀ j, j < l.length → l[j]? = ops[k + j]?) → k + l.length = n → HeadInv md ops n listed →
    Region.lexHead md ops g l.length k listed = true → wpQuiet P ops C Lq l a → headQ P md ops C n (fun listed' a' => Region.seqB md ops g n listed' = true ∧ Lq a') l.length listed a
  | [], k, listed, a, _, hk, _, hB, h => by
    have : k = n := by simpa using hk
    subst this
    exact ⟨by simpa [Region.lexHead] using hB, h⟩
  | o :: l, k, listed, a, hl, hk, inv, hB, h => by
    have h0 : ops[k]? = some o := by simpa using (hl 0 (by simp)).symm
    simp only [List.length_cons, Region.lexHead, Bool.and_eq_true] at hB
    obtain ⟨⟨hr, hf⟩, hB'⟩ := hB
    have hkn : k < n := by simp only [List.length_cons] at hk; omega
    have hr' : k ∈ Region.ready md ops listed := by simpa using hr
    have hst : qOp P ops C k (wpQuiet P ops C Lq l) a := by unfold qOp; simp only [h0]; exact h
    obtain ⟨v, hy, hK⟩ := yieldsIn_of_qOp h0 hst
    exact headQ_first h0 (Region.noSelect_spec hsel) hs hc hn hkn (fun listed' a' hL => seqB_ready hL.1) l.length listed a inv (Region.free_spec h0 hf) hr' hy
      (headQ_lex hsel hs hc hn l (k + 1) _ _ (fun j hj => by have := hl (j + 1) (by simp; omega); simpa [Nat.add_assoc, Nat.add_comm 1 j] using this) (by simp only [List.length_cons] at hk; omega) (inv.set hr' hkn) hB' hK)

theorem wp_region_quiet_tail {id : Nat} {Q : Exit → Act → World → Prop} {a : Act} {w : World} {l : List Oper} (n : Nat) (hm : P.follows .mixedOrders = true) (hB : Region.lexTailB .any l.toArray n = true) (hC : C w.drew)
    (h : wpQuiet P l.toArray C (fun a' => ∀ w', C w' → wpList P l.toArray Q (l.drop n) a' w') (l.take n) a) : (Code.region id l.toArray true).wp P Q a w := by
  simp only [Region.lexTailB, Bool.and_eq_true, decide_eq_true_eq] at hB
  obtain ⟨⟨⟨⟨hsel, hn⟩, hs⟩, hc⟩, hlex⟩ := hB
  have hn' : n < l.length := by simpa using hn
  have htl : (l.take n).length = n := by simp; omega
  have hdl : (l.drop n).length = l.toArray.size - n := by simp
  have inv0 : HeadInv .any l.toArray n (Array.replicate l.toArray.size false) :=
    ⟨by simp, fun j oj _ hl => (by rw [getD_replicate_false] at hl; cases hl), fun t _ ht => getD_in (by simpa using ht) (getD_replicate_false _ _)⟩
  have H := headQ_lex (md := .any) (g := l.toArray.size - n) hsel hs hc hn (l.take n) 0 _ a (fun j hj => by
    have hj' : j < n := by rw [htl] at hj; exact hj
    simp [hj']) (by simpa using htl) inv0 (by rw [htl]; exact hlex) h
  refine wp_region_any hm ?_
  have := any_of_headQ (Q' := Q) (g := l.toArray.size - n) (fun listed a' w' hw' hL => by
    have := wpAny_of_seq (md := .any) (Q' := Q) (l.drop n) n listed a' w' (fun j => by simp [List.getElem?_drop]) (by rw [hdl]; exact hL.1) (hL.2 w' hw')
    rwa [hdl] at this) _ _ _ _ hC H
  rw [htl, show n + (l.toArray.size - n) = l.toArray.size by omega] at this
  exact this

/-- the class named by what is known of its worlds (as wp_region_class) -/
theorem wp_region_class_tail {id : Nat} {Q : Exit → Act → World → Prop} {a : Act} {w : World} {l : List Oper} (S : World → Prop) (n : Nat) (hm : P.follows .mixedOrders = true) (hB : Region.lexTailB .any l.toArray n = true) (hS : S w.drew)
    (h : ∀ (X : Type) (_ : Nonempty X) (f : X → World), (∀ x, S (f x)) → (∀ w', S w' → ∃ x, w' = f x) →
      wpQuiet P l.toArray (fun w' => ∃ x, w' = f x) (fun a' => ∀ w', (∃ x, w' = f x) → wpList P l.toArray Q (l.drop n) a' w') (l.take n) a) : (Code.region id l.toArray true).wp P Q a w :=
  wp_region_quiet_tail (C := fun w' => ∃ x : { w' : World // S w' }, w' = x.val) n hm hB ⟨⟨w.drew, hS⟩, rfl⟩
    (h { w' : World // S w' } ⟨⟨w.drew, hS⟩⟩ (fun x => x.val) (fun x => x.property) (fun w' hw => ⟨⟨w', hw⟩, rfl⟩))
end
end Go.Proofs.Ythgjlofebicpiaa

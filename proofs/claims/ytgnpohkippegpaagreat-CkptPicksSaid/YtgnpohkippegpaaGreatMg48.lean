/-
  CkA
-/
import Derived.Test.YtgnpohkippegpaaGreatMg43
import Derived.Test.YtgnpohkippegpaaGreatMg41
import Derived.Test.YtgnpohkippegpaaGreatMg44
import Derived.Test.YtgnpohkippegpaaGreatMg46
import Derived.Test.YtgnpohkippegpaaGreatMg47
/-
  Layer 13's answers: Read (a region, as sectors: its head and places).
-/
namespace Go.Proofs.YtgnpohkippegpaaGreat
open Go.RowKit Geom Zone Dev Ckp Word
set_option linter.unusedVariables false

theorem big_at {α : Type} (P : Program) {w : World} {B : Nat} {ad : Addr} {f : α → List Value} {xs : List α} {m : Nat} (hr : Rd w B (some ad) (xs.flatMap f)) (hl : ∀ y ∈ xs, (f y).length = m) (hm : 0 < m) (k : Nat) (x : α) (hx : xs[k]? = some x) :
    (loadCellsFrom (ad.add (k * m)) 0 m #[]).run P w = .ok (f x).toArray w := by
  obtain ⟨ad', e, h⟩ := big_elem P hr hl hm k x hx
  injection e with e
  subst e
  exact h
theorem pad_z {n P : Nat} {ys : List Int} (hP : Tbl.pages n = P) (hl : ys.length = 10 * P) (hz : Tbl.TZ n ys) : Tbl.padT (ys.take n) = ys := by
  have hu := Tbl.pages_up n
  have ht : (ys.take n).length = n := by simp; omega
  unfold Tbl.padT
  rw [ht]
  apply List.ext_getElem?
  intro i
  rcases Nat.lt_or_ge i n with hi | hi
  · rw [List.getElem?_append_left (by omega), List.getElem?_take, if_pos hi]
  · rw [List.getElem?_append_right (by omega), List.getElem?_replicate, ht]
    have ho := hz i hi
    rw [List.getD_eq_getElem?_getD] at ho
    split
    · have hb : i < ys.length := by omega
      rw [List.getElem?_eq_getElem hb] at ho ⊢
      simp at ho
      rw [ho]
    · rw [List.getElem?_eq_none (by omega)]
namespace Ckp
open Tbl Leaf
/-- leaves that were read bear narrow places -/
theorem nar_of {n : Nat} {gen : Int} {ps : List (List Int)} {ls : List Lf} {ys : List Int} (h1 : lfsR gen 0 ps = some ls) (h2 : ofT n ls = some ys) : Nar ys := by
  obtain ⟨p1, p2⟩ := lfsR_is h1
  obtain ⟨q1, q2⟩ := ls_of (gen := gen) (fun k x hk => by have := p2 k x hk; exact ⟨this.1, by simpa using this.2.1, this.2.2.1⟩) h2
  intro y hy
  obtain ⟨k, hk⟩ := List.getElem?_of_mem hy
  have hkl : k < ys.length := (List.getElem?_eq_some_iff.1 hk).1
  have e : ls[k / 10]? = some (lfOf ys gen (k / 10)) := by rw [q1]; exact lfsOf_get (by omega)
  have hok := (p2 _ _ e).2.2.2
  have e1 := leafOf_get? ys (k / 10) (k % 10)
  rw [if_pos (by omega), show k / 10 * 10 + k % 10 = k by omega, hk] at e1
  exact hok.2.2 y (List.mem_of_getElem? e1)
end Ckp
section
variable {w : World} {ops : Array Oper} {o : Oper} {a : Act} {K : Act → World → Prop} {Q : Exit → Act → World → Prop} {E : Prop}
/-- a mast's variable is made, at a step of a region that draws its order -/
theorem step_ms_alloc (hgd : o.guard = none) (ho : o.op = .alloc 34)
    (h : ∀ w', Box w' w.heap.size 34 (mcs Mast.m0) → Below w.heap.size w w' → w'.heap.size = w.heap.size + 1 → K (a.put o.dst (.pointer (some ⟨w.heap.size, 0, none⟩))) w') :
    if Region.wanted o (yielded ops a.tmps) = true then Oper.wp Tryz.prog o a w K Q else E := by
  have hw : Region.wanted o (yielded ops a.tmps) = true := by simp [Region.wanted, hgd]
  rw [if_pos hw]
  have e : (Instr.alloc 34 true (.tuple #[])).run Tryz.prog w = .ok (.pointer (some ⟨w.heap.size, 0, none⟩)) (w.alloc (.cells (mcs Mast.m0).toArray 34)) := by
    simp [Instr.alloc, zero_mast w, newVar, newRow, newObj, Value.cells]
    rfl
  unfold Oper.wp execOp
  simp only [ho, Sem.run_bind, e, Result.andThen_ok]
  exact h _ (Box.new w _ (mcs Mast.m0)) ((Below.refl _ _).alloc (Nat.le_refl _) _) (by simp)
/-- a mast is laid into its variable, at a step of a region that draws its order -/
theorem step_ms_store (hgd : o.guard = none) (x y : Operand) (ho : o.op = .store 34 x y) (g : Nat) (r old : Mast.Mst)
    (hx : a.eval x = .pointer (some ⟨g, 0, none⟩)) (hy : a.eval y = .agg (mcs r).toArray) (hb : Box w g 34 (mcs old)) (h : ∀ w', Box w' g 34 (mcs r) → w.grownBy w' (some g) → w'.heap.size = w.heap.size → K (a.put o.dst undef) w') :
    if Region.wanted o (yielded ops a.tmps) = true then Oper.wp Tryz.prog o a w K Q else E := by
  have hw : Region.wanted o (yielded ops a.tmps) = true := by simp [Region.wanted, hgd]
  rw [if_pos hw]
  have hrun := run_storeVar_row (P := Tryz.prog) w g 34 34 (mcs old).toArray (mcs r).toArray hb (by simpa using ms_size r) (by simp [mcs_length]) (all_oneCell_toArray (mcs_one r))
  have hK := h (w.setRow g (mcs r).toArray) (setRow_heap w g _ _ _ _ hb) ⟨rfl, rfl, rfl, by simp [World.setRow], fun k _ hk => setRow_other w g k _ (by intro e; exact hk (by rw [e]))⟩ (by simp [World.setRow])
  unfold Oper.wp execOp
  simp only [ho, hx, hy, Instr.storeAt, Instr.sureAddr, Sem.run_bind, Sem.run_pure, Result.andThen_ok, hrun]
  exact hK
end
/-- what the answer's Read answers -/
def RdPost (w w' : World) (n : Nat) (R : Option (Mast.Mst × List Int)) (e : Ending) : Prop := match R with
  | none => ∃ m V, e = .returned (.tuple #[.agg (mcs m).toArray, V, .bool false])
  | some x => ∃ V, e = .returned (.tuple #[.agg (mcs x.1).toArray, V, .bool true]) ∧ w'.ownsRow w.heap.size 3 1 V n (is (x.2.take n))
theorem RdPost.no {w w' : World} {n : Nat} {R : Option (Mast.Mst × List Int)} {e : Ending} {m : Mast.Mst} {V : Value} (h : R = none) (he : e = .returned (.tuple #[.agg (mcs m).toArray, V, .bool false])) : RdPost w w' n R e := by subst h; exact ⟨m, V, he⟩
theorem RdPost.yes {w w' : World} {n : Nat} {R : Option (Mast.Mst × List Int)} {e : Ending} {m : Mast.Mst} {ys : List Int} {V : Value} (h : R = some (m, ys)) (he : e = .returned (.tuple #[.agg (mcs m).toArray, V, .bool true])) (ho : w'.ownsRow w.heap.size 3 1 V n (is (ys.take n))) : RdPost w w' n R e := by subst h; exact ⟨V, he, ho⟩
structure RkSt (w W : World) (bm br : Nat) (m : Mast.Mst) (gs : List Value) : Prop where
  mb : Box W bm 34 (mcs m)
  rb : Box W br 34 (mcs Mast.m0)
  gb : Box W w.heap.size 23 gs
  bl : Below w.heap.size w W
  brl : w.heap.size ≤ br
  brm : br < bm
theorem RkSt.on {w W W' : World} {bm br : Nat} {m : Mast.Mst} {gs : List Value} (s : RkSt w W bm br m gs) (hb : Below W.heap.size W W') : RkSt w W' bm br m gs := ⟨s.mb.on hb, s.rb.on hb, s.gb.on hb, bthen s.bl hb, s.brl, s.brm⟩
theorem RkSt.add {w W W' : World} {bm br s n : Nat} {m : Mast.Mst} {gs : List Value} {v : Value} {xs : List Value} (h : RkSt w W bm br m gs) (ho : W.ownsRow w.heap.size 86 s v n xs) (hg : W.grownBy W' v.ownBlock) : RkSt w W' bm br m gs :=
  ⟨box_far h.mb ho hg (by decide), box_far h.rb ho hg (by decide), box_far h.gb ho hg (by decide), h.bl.grown hg h.bl.size (fun g e => (ho.lt g e).1), h.brl, h.brm⟩
set_option maxRecDepth 100000 in
set_option maxHeartbeats 8000000 in
theorem rckread_any (conv soft seq size opn odd : Int) (n P N cap : Nat) (A : Option Addr) (L : List (List Int)) (w : World) (M : Msr conv soft seq size opn n P) (hN : N = P + 2) (hL : L.length = N) (h64 : P64 L) (ho : Oct L) (hr : Rd w w.heap.size A (pgcs L)) :
    Calls Tryz.prog 14 #[gvl conv soft seq size opn, .slice A N cap, .int .i64 odd] w fun e w' => RdPost w w' n (wholeR n P odd L) e ∧ Below w.heap.size w w' := by
  obtain ⟨m6, hm6, hszp⟩ := big_size (P := Tryz.prog) (t := 43) (s := 64) (by kernel_rfl)
  obtain ⟨mr, hmr, hszr⟩ := big_size (P := Tryz.prog) (t := 34) (s := 6) (by kernel_rfl)
  obtain ⟨ml, hml, hszl⟩ := big_size (P := Tryz.prog) (t := 86) (s := 12) (by kernel_rfl)
  have hm60 : ¬ m6 = 0 := by omega
  have hmr0 : ¬ mr = 0 := by omega
  have hml0 : ¬ ml = 0 := by omega
  have HM := Lib.hid (And.intro hm6 (And.intro hmr hml))
  have LA := Lib.hid fun (W : World) (b : Nat) (x : Mast.Mst) (h : Box W b 34 (mcs x)) => big_load0 Tryz.prog b 0 (mcs x) mr (by rw [mcs_length, HM.out.2.1]) W h.range0
  have HMs := Lib.hid M
  have hP410 : P ≤ 410 := by rw [← M.hP]; exact pages_le M.n4
  have HP4 := Lib.hid hP410
  obtain ⟨K, hK⟩ : ∃ K, K = P + 1 := ⟨_, rfl⟩
  have hn00 : 0 < N := by omega
  have hn0 : (0 : Int) < (N : Int) := by omega
  have hk0 : (0 : Int) ≤ (K : Int) := by omega
  have hk1 : (K : Int) < (N : Int) := by omega
  have hk2 : K < N := by omega
  have hkw : IntKind.i64.wrap ((P : Int) + 1) = (K : Int) := by rw [IntWalk.i64_in _ (by omega)]; omega
  have HNK := Lib.hid (And.intro hN hK)
  obtain ⟨p0, hp0⟩ : ∃ p, L[0]? = some p := ⟨L[0]'(by omega), List.getElem?_eq_getElem _⟩
  obtain ⟨pz, hpz⟩ : ∃ p, L[K]? = some p := ⟨L[K]'(by omega), List.getElem?_eq_getElem _⟩
  have H0 := Lib.hid (And.intro (h64 p0 (List.mem_of_getElem? hp0)) (And.intro (ho p0 (List.mem_of_getElem? hp0)) hp0))
  have HZ := Lib.hid (And.intro (h64 pz (List.mem_of_getElem? hpz)) (And.intro (ho pz (List.mem_of_getElem? hpz)) hpz))
  have HPg := Lib.hid fun w' => rpages_any conv soft seq size opn w' M.ok.some
  have HBk := Lib.hid fun w' => rblocks_any conv soft seq size opn w' M.ok.some
  rw [M.hPg] at HPg
  rw [M.hb] at HBk
  have HRi := Lib.hid (Mast.read_in H0.out.2.1)
  have HRd8 := Lib.hid fun w' => rread8_any p0 w' H0.out.1 H0.out.2.1
  rw [Mast.read_eq H0.out.2.1] at HRd8
  have HPs : Hid (((L.drop 1).take P).length = P ∧ P64 ((L.drop 1).take P) ∧ Oct ((L.drop 1).take P) ∧ ∀ k, k < P → ∃ p, L[k + 1]? = some p ∧ ((L.drop 1).take P)[k]? = some p) := Lib.hid ⟨by simp; omega, fun p hp => h64 p (List.mem_of_mem_drop (List.mem_of_mem_take hp)), fun p hp => ho p (List.mem_of_mem_drop (List.mem_of_mem_take hp)), fun k hk => by
    have h1 : k + 1 < L.length := by omega
    refine ⟨L[k + 1]'h1, List.getElem?_eq_getElem _, ?_⟩
    rw [List.getElem?_take, if_pos hk, List.getElem?_drop, Nat.add_comm 1 k]
    exact List.getElem?_eq_getElem _⟩
  have HWh : Hid (wholeR n P odd L = if (Mast.readS p0).2 = 0 ∧ (Mast.readS p0).1.foot = false ∧ (Mast.readS p0).1.pages = P ∧ (Mast.readS p0).1.gen % 2 = odd then
    match lfsR (Mast.readS p0).1.gen 0 ((L.drop 1).take P) with
    | none => none
    | some ls => match Tbl.ofT n ls with
      | none => none
      | some ys => if pz = Mast.layL (footOf (Mast.readS p0).1 (lvs ys (Mast.readS p0).1.gen P)) then some ((Mast.readS p0).1, ys) else none
  else none) := Lib.hid (by
    have e1 : L.getD 0 [] = p0 := by rw [List.getD_eq_getElem?_getD, hp0]; rfl
    have e2 : L.getD (P + 1) [] = pz := by rw [← hK, List.getD_eq_getElem?_getD, hpz]; rfl
    unfold wholeR
    rw [e1, e2]
    rfl)
  have HL := Lib.hid (And.intro h64 ho)
  generalize wholeR n P odd L = R at *
  generalize hps : (L.drop 1).take P = ps at *
  obtain ⟨ad, rfl, _⟩ := big_elem Tryz.prog (m := m6) hr (fun y hy => (HL.out.1.bs y hy).trans HM.out.1.symm) (by omega) 0 p0 hp0
  have HRdA := Lib.hid hr
  have HRow := Lib.hid fun (W : World) (hb : Below w.heap.size w W) (k : Nat) (p : List Int) (hk : L[k]? = some p) => big_at Tryz.prog (m := m6) ((HRdA.out.below hb).more hb.size) (fun y hy => (HL.out.1.bs y hy).trans HM.out.1.symm) (by have := HM.out.1; omega) k p hk
  have HRw0 : Hid (∀ W, Below w.heap.size w W → (loadCellsFrom ad 0 m6 #[]).run Tryz.prog W = .ok (bs p0).toArray W) := Lib.hid fun W hb => by
    have h := HRow.out W hb 0 p0 H0.out.2.2
    rw [Nat.zero_mul] at h
    have e : ad.add 0 = ad := by cases ad; simp [Addr.add]
    rwa [e] at h
  generalize hR9 : R = R' at *
  clear hm6 hmr hml hr h64 ho hp0 hpz hL hN hK M hps hR9
  go_enter Tryz.func14, Tryz.ntmps14
  go_wp2_with (first
    | ((with_reducible refine wpList_box_box _ (o := ⟨some 3, .box _ _, _, _, _, _⟩) rfl _ _ rfl (gcl conv soft seq size opn) rfl ?_); intro w1 x1 hB1 hs1; clear hs1)
    | ((with_reducible refine wpList_ms_alloc (o := ⟨some 6, .alloc _, _, _, _, _⟩) rfl rfl ?_); go_loud (intro w2 x2 hB2 hs2; clear hs2; have S2 : Hid (Box w2 w1.heap.size 34 (mcs Mast.m0) ∧ Box w2 w.heap.size 23 (gcl conv soft seq size opn) ∧ Below w.heap.size w w2 ∧ w.heap.size ≤ w1.heap.size) := Lib.hid ⟨x2, x1.on hB2, bthen hB1 hB2, hB1.size⟩; have l0 := HRw0.out w2 S2.out.2.2.1; clear x1 hB1 x2 hB2; generalize w1.heap.size = br at *))
    | fail)
  refine (HRd8.out w2).mono ?_
  rintro e w3 ⟨rfl, hb3⟩
  have S3 : Hid (Box w3 br 34 (mcs Mast.m0) ∧ Box w3 w.heap.size 23 (gcl conv soft seq size opn) ∧ Below w.heap.size w w3 ∧ w.heap.size ≤ br) := Lib.hid ⟨S2.out.1.on hb3, S2.out.2.1.on hb3, bthen S2.out.2.2.1 hb3, S2.out.2.2.2⟩
  clear hb3 S2 l0 HRd8
  have HMok : Hid ((Mast.readS p0).2 = 0 → Mast.Ok (Mast.readS p0).1) := Lib.hid fun h => of_decide_eq_true (Mast.read_ok h).1
  generalize (Mast.readS p0).1 = m at *
  generalize (Mast.readS p0).2 = er at *
  go_wp2_with (first
    | ((with_reducible refine wpList_ms_alloc (o := ⟨some 9, .alloc _, _, _, _, _⟩) rfl rfl ?_); intro w4 x4 hB4 hs4; clear hs4)
    | ((with_reducible refine wpList_ms_store (o := ⟨none, .store _ (.tmp 9) _, _, _, _, _⟩) rfl _ _ rfl w3.heap.size m Mast.m0 rfl rfl x4 ?_); go_loud (intro w5 x5 hg5 _; have K5 := below_stored hB4 hg5 hB4.size (Nat.le_refl _); have S5 : Hid (RkSt w w5 w3.heap.size br m (gcl conv soft seq size opn)) := Lib.hid ⟨x5, S3.out.1.on K5, S3.out.2.1.on K5, bthen S3.out.2.2.1 K5, S3.out.2.2.2, S3.out.1.lt⟩; have c0 : w5.cell? ⟨w.heap.size, 0, none⟩ = some (.int .i64 conv) := S5.out.gb.cell 0; have c1 : w5.cell? ⟨w.heap.size, 1, none⟩ = some (.int .i64 soft) := S5.out.gb.cell 1; have c2 : w5.cell? ⟨w.heap.size, 2, none⟩ = some (.int .i64 seq) := S5.out.gb.cell 2; have c3 : w5.cell? ⟨w.heap.size, 3, none⟩ = some (.int .i64 size) := S5.out.gb.cell 3; have c4 : w5.cell? ⟨w.heap.size, 4, none⟩ = some (.int .i64 opn) := S5.out.gb.cell 4; clear x4 hB4 x5 hg5 K5 S3; generalize w3.heap.size = bm at *))
    | fail)
  refine (HPg.out w5).mono ?_
  rintro e w6 ⟨rfl, hb6⟩
  have S6 := Lib.hid (S5.out.on hb6)
  clear hb6 S5 c0 c1 c2 c3 c4
  have cm0 : w6.cell? ⟨bm, 0, none⟩ = some (.bool m.foot) := S6.out.mb.cell 0
  have cm4 : w6.cell? ⟨bm, 4, none⟩ = some (.int .i64 m.pages) := S6.out.mb.cell 4
  have cm1 : w6.cell? ⟨bm, 1, none⟩ = some (.int .i64 m.gen) := S6.out.mb.cell 1
  have HNo : Hid (¬ (er = 0 ∧ m.foot = false ∧ m.pages = P ∧ m.gen % 2 = odd) → R' = none) := Lib.hid fun h => by rw [HWh.out, if_neg h]
  by_cases he : er = 0
  rotate_left
  · have HE := Lib.hid (HNo.out fun h => he h.1)
    have e1 : (er != 0) = true := by simp [he]
    clear he
    go_wp2_with (first
      | (with_reducible refine wpList_ms_zero (o := ⟨some 47, .build _ _, _, _, _, _⟩) rfl rfl ?_)
      | ((with_reducible refine wpList_ms_store (o := ⟨none, .store _ (.tmp 6) _, _, _, _, _⟩) rfl _ _ rfl br Mast.m0 Mast.m0 rfl rfl S6.out.rb ?_); go_loud (intro w9 hb9 hg9 _; have hldF := LA.out _ _ _ hb9; have HBl := Lib.hid (below_stored S6.out.bl hg9 S6.out.bl.size S6.out.brl); clear hb9 hg9))
      | fail)
    generalize hR9 : mcs Mast.m0 = R9 at hldF ⊢
    exact bodyPost_ret (v := .tuple #[.agg R9.toArray, .slice none 0 0, .bool false]) (by simp [results, Tryz.results14, go_sem, hszr, hldF]) rfl ⟨RdPost.no (HE.out) (by rw [← hR9]), HBl.out⟩
  have HOk := Lib.hid (HMok.out he)
  have hg0 : 0 ≤ m.gen := by have := HOk.out.1.1; omega
  have e1 : (er != 0) = false := by simp [he]
  cases hft : m.foot with
  | true =>
    have HE := Lib.hid (HNo.out fun h => by rw [hft] at h; cases h.2.1)
    rw [hft] at cm0
    clear he hft
    go_wp2_with (first
      | (with_reducible refine wpList_ms_zero (o := ⟨some 47, .build _ _, _, _, _, _⟩) rfl rfl ?_)
      | ((with_reducible refine wpList_ms_store (o := ⟨none, .store _ (.tmp 6) _, _, _, _, _⟩) rfl _ _ rfl br Mast.m0 Mast.m0 rfl rfl S6.out.rb ?_); go_loud (intro w9 hb9 hg9 _; have hldF := LA.out _ _ _ hb9; have HBl := Lib.hid (below_stored S6.out.bl hg9 S6.out.bl.size S6.out.brl); clear hb9 hg9))
      | fail)
    generalize hR9 : mcs Mast.m0 = R9 at hldF ⊢
    exact bodyPost_ret (v := .tuple #[.agg R9.toArray, .slice none 0 0, .bool false]) (by simp [results, Tryz.results14, go_sem, hszr, hldF]) rfl ⟨RdPost.no (HE.out) (by rw [← hR9]), HBl.out⟩
  | false =>
  rw [hft] at cm0
  by_cases hpg : m.pages = (P : Int)
  rotate_left
  · have HE := Lib.hid (HNo.out fun h => hpg h.2.2.1)
    have e2 : (m.pages != (P : Int)) = true := by simp [hpg]
    clear he hft hpg
    go_wp2_with (first
      | (with_reducible refine wpList_ms_zero (o := ⟨some 47, .build _ _, _, _, _, _⟩) rfl rfl ?_)
      | ((with_reducible refine wpList_ms_store (o := ⟨none, .store _ (.tmp 6) _, _, _, _, _⟩) rfl _ _ rfl br Mast.m0 Mast.m0 rfl rfl S6.out.rb ?_); go_loud (intro w9 hb9 hg9 _; have hldF := LA.out _ _ _ hb9; have HBl := Lib.hid (below_stored S6.out.bl hg9 S6.out.bl.size S6.out.brl); clear hb9 hg9))
      | fail)
    generalize hR9 : mcs Mast.m0 = R9 at hldF ⊢
    exact bodyPost_ret (v := .tuple #[.agg R9.toArray, .slice none 0 0, .bool false]) (by simp [results, Tryz.results14, go_sem, hszr, hldF]) rfl ⟨RdPost.no (HE.out) (by rw [← hR9]), HBl.out⟩
  have e2 : (m.pages != (P : Int)) = false := by simp [hpg]
  by_cases hgo : m.gen % 2 = odd
  rotate_left
  · have HE := Lib.hid (HNo.out fun h => hgo h.2.2.2)
    have e3 : (m.gen % 2 != odd) = true := by simp [hgo]
    clear he hft hpg hgo
    go_wp2_with (first
      | (with_reducible refine wpList_ms_zero (o := ⟨some 47, .build _ _, _, _, _, _⟩) rfl rfl ?_)
      | ((with_reducible refine wpList_ms_store (o := ⟨none, .store _ (.tmp 6) _, _, _, _, _⟩) rfl _ _ rfl br Mast.m0 Mast.m0 rfl rfl S6.out.rb ?_); go_loud (intro w9 hb9 hg9 _; have hldF := LA.out _ _ _ hb9; have HBl := Lib.hid (below_stored S6.out.bl hg9 S6.out.bl.size S6.out.brl); clear hb9 hg9))
      | fail)
    generalize hR9 : mcs Mast.m0 = R9 at hldF ⊢
    exact bodyPost_ret (v := .tuple #[.agg R9.toArray, .slice none 0 0, .bool false]) (by simp [results, Tryz.results14, go_sem, hszr, hldF]) rfl ⟨RdPost.no (HE.out) (by rw [← hR9]), HBl.out⟩
  have e3 : (m.gen % 2 != odd) = false := by simp [hgo]
  have HW2 : Hid (R' = match lfsR m.gen 0 ps with
    | none => none
    | some ls => match Tbl.ofT n ls with
      | none => none
      | some ys => if pz = Mast.layL (footOf m (lvs ys m.gen P)) then some (m, ys) else none) := Lib.hid (by rw [HWh.out, if_pos ⟨he, hft, hpg, hgo⟩])
  clear he hft hpg hgo HWh HNo HMok
  have RO6 : Hid (w6.ownsRow w.heap.size 86 12 (.slice none 0 0) 0 (lfls ((rl ps).take 0))) := Lib.hid (World.ownsRow_nil _ _ _ _)
  go_wp2_with fail
  clear cm0 cm1 cm4 e1 e2 e3
  go_loopw [12, 13] (fun o i wr => ∃ k : Nat, k ≤ P ∧ i = .int .i64 k ∧ RkSt w wr bm br m (gcl conv soft seq size opn) ∧ wr.ownsRow w.heap.size 86 12 o k (lfls ((rl ps).take k)) ∧ ∀ j p, j < k → ps[j]? = some p → lfR m.gen j p = some (Leaf.readS p).1) (fun _ i _ => P - (intOf i).toNat)
  case atStart => exact ⟨0, by omega, rfl, S6.out, RO6.out, fun j p hj => by omega⟩
  case round =>
    clear S6 RO6
    obtain ⟨k, hk, rfl, hst, hro, hall⟩ := hrel
    have SA := Lib.hid hst
    have ROA := Lib.hid hro
    have HAl := Lib.hid hall
    clear hst hro hall
    by_cases hlt : k < P
    · obtain ⟨p, hpL, hpk⟩ := HPs.out.2.2.2 k hlt
      have hpm := List.mem_of_getElem? hpk
      have HPp := Lib.hid (And.intro (HPs.out.2.1 p hpm) (HPs.out.2.2.1 p hpm))
      obtain ⟨J, hJ⟩ : ∃ J, J = k + 1 := ⟨_, rfl⟩
      have hki : (k : Int) < (P : Int) := by omega
      have hj0 : (0 : Int) ≤ (J : Int) := by omega
      have hj1 : (J : Int) < (N : Int) := by have := HNK.out.1; omega
      have hj2 : J < N := by have := HNK.out.1; omega
      have hjw : IntKind.i64.wrap ((k : Int) + 1) = (J : Int) := by rw [IntWalk.i64_in _ (by have := HP4.out; omega)]; omega
      have HJ := Lib.hid hJ
      have lp := HRow.out wr SA.out.bl J p (by rw [hJ]; exact hpL)
      have HLi := Lib.hid (Leaf.read_in p)
      have HNo := Lib.hid fun (h : lfR m.gen k p = none) => lfsR_no (gen := m.gen) ps 0 k p hpk (by rwa [Nat.zero_add])
      have HYe := Lib.hid fun h1 h2 h3 => lfR_yes (gen := m.gen) (i := k) (p := p) h1 h2 h3
      have HNi : Hid (¬ ((Leaf.readS p).2 = 0 ∧ (Leaf.readS p).1.gen = m.gen ∧ (Leaf.readS p).1.index = k) → lfR m.gen k p = none) := Lib.hid fun h => if_neg h
      have HNn : Hid (lfR m.gen k p = none → R' = none) := Lib.hid fun h => by rw [HW2.out, HNo.out h]
      have HTk : Hid (lfls ((rl ps).take (k + 1)) = lfls ((rl ps).take k) ++ lcs (Leaf.readS p).1) := Lib.hid (by
        have h := rl_at hpk
        obtain ⟨h1, h2⟩ := List.getElem?_eq_some_iff.1 h
        rw [List.take_succ_eq_append_getElem h1, h2]
        simp [lfls])
      have HPk := Lib.hid hpk
      have HR7 := Lib.hid fun w' => rread7_any p w' HPp.out.1 HPp.out.2
      rw [Leaf.read_eq HPp.out.1 HPp.out.2] at HR7
      clear hpL hpk hpm hJ
      go_wp2_with fail
      refine (HR7.out wr).mono ?_
      rintro e wb ⟨rfl, hbb⟩
      have SB := Lib.hid (SA.out.on hbb)
      have ROB := Lib.hid (own_below ROA.out hbb)
      clear hbb lp SA ROA HR7
      generalize hlf : (Leaf.readS p).1 = lf at *
      generalize her : (Leaf.readS p).2 = er2 at *
      have HRe := Lib.hid (And.intro hlf her)
      clear hlf her
      have hwb := SB.out.bl.size
      by_cases he : er2 = 0
      · by_cases hg : lf.gen = m.gen
        · by_cases hix : lf.index = (k : Int)
          · have HAk : Hid (∀ j p, j < k + 1 → ps[j]? = some p → lfR m.gen j p = some (Leaf.readS p).1) := Lib.hid fun j q hj hq => by
              rcases Nat.lt_or_ge j k with h | h
              · exact HAl.out j q h hq
              · obtain rfl : j = k := by omega
                have h2 := HPk.out
                rw [hq] at h2
                obtain rfl : q = p := by injection h2
                rw [HRe.out.1]
                exact HYe.out he hg hix
            have e1 : (er2 != 0) = false := by simp [he]
            have e2 : (lf.gen != m.gen) = false := by simp [hg]
            have e3 : (lf.index != (k : Int)) = false := by simp [hix]
            have HL1 := Lib.hid (And.intro (lcs_length HLi.out) (lcs_one lf))
            have HK5 : Hid (k ≤ 410) := Lib.hid (by have := HP4.out; omega)
            clear he hg hix HAl
            go_wp2_with (first
              | ((with_reducible refine wpList_lf_alloc (o := ⟨some 14, .alloc _, _, _, _, _⟩) rfl rfl ?_); intro wd xd hBd hsd; clear hsd)
              | ((with_reducible refine wpList_lf_store (o := ⟨none, .store 86 (.tmp 14) _, _, _, _, _⟩) rfl _ _ rfl wb.heap.size lf Leaf.lf0 HLi.out Leaf.lf0_in rfl rfl xd ?_); go_loud (intro we xe hge hse; have Ke := below_stored hBd hge hBd.size (Nat.le_refl _); have SE := Lib.hid (SB.out.on Ke); have ROE := Lib.hid (own_below ROB.out Ke); have le := big_load0 Tryz.prog wb.heap.size 0 (lcs lf) ml (by rw [lcs_length HLi.out, HM.out.2.2]) _ xe.range0; obtain ⟨cl0, cl1⟩ := xe.lf; have cm1 : we.cell? ⟨bm, 1, none⟩ = some (.int .i64 m.gen) := SE.out.mb.cell 1; clear hBd xd hge hse SB ROB xe Ke; generalize wb.heap.size = bv at *))
              | ((with_reducible refine wpList_lf_slice1 (o := ⟨some 80, .buildSlice _ _ _, _, _, _, _⟩) rfl _ rfl (lcs lf) HL1.out.1 rfl ?_))
              | (at_builtin; go_loud (refine wpList_append_new _ rfl _ _ _ rfl w.heap.size 86 _ 12 96 elemL u12 _ _ rfl (lcs lf) rfl ROE.out HL1.out.1 HL1.out.2 (by have := HK5.out; simp only [maxLen]; omega) (by have := HK5.out; omega) SE.out.bl.size ?_); go_loud (intro v1 wf hown1 hg1; rw [← HTk.out] at hown1; have SF := Lib.hid (SE.out.add ROE.out hg1); have ROF := Lib.hid hown1; clear hown1 hg1 le cl0 cl1 cm1 SE ROE))
              | fail)
            go_roundw
            case rel => exact ⟨J, by have := HJ.out; omega, by go_num, SF.out, by rw [HJ.out]; exact ROF.out, by rw [HJ.out]; exact HAk.out⟩
            case measure => have := HJ.out; simp [intOf]; omega
          · have HE := Lib.hid (HNn.out (HNi.out fun h => hix h.2.2))
            have e1 : (er2 != 0) = false := by simp [he]
            have e2 : (lf.gen != m.gen) = false := by simp [hg]
            have e3 : (lf.index != (k : Int)) = true := by simp [hix]
            clear he hg hix
            go_wp2_with (first
              | ((with_reducible refine wpList_lf_alloc (o := ⟨some 14, .alloc _, _, _, _, _⟩) rfl rfl ?_); intro wd xd hBd hsd; clear hsd)
              | ((with_reducible refine wpList_lf_store (o := ⟨none, .store 86 (.tmp 14) _, _, _, _, _⟩) rfl _ _ rfl wb.heap.size lf Leaf.lf0 HLi.out Leaf.lf0_in rfl rfl xd ?_); go_loud (intro we xe hge hse; have Ke := below_stored hBd hge hBd.size (Nat.le_refl _); have SE := Lib.hid (SB.out.on Ke); have ROE := Lib.hid (own_below ROB.out Ke); have le := big_load0 Tryz.prog wb.heap.size 0 (lcs lf) ml (by rw [lcs_length HLi.out, HM.out.2.2]) _ xe.range0; obtain ⟨cl0, cl1⟩ := xe.lf; have cm1 : we.cell? ⟨bm, 1, none⟩ = some (.int .i64 m.gen) := SE.out.mb.cell 1; clear hBd xd hge hse SB ROB xe Ke; generalize wb.heap.size = bv at *))
              | (with_reducible refine wpList_ms_zero (o := ⟨some 77, .build _ _, _, _, _, _⟩) rfl rfl ?_)
              | ((with_reducible refine wpList_ms_store (o := ⟨none, .store _ (.tmp 6) _, _, _, _, _⟩) rfl _ _ rfl br Mast.m0 Mast.m0 rfl rfl SE.out.rb ?_); go_loud (intro w9 hb9 hg9 _; have hldF := LA.out _ _ _ hb9; have HBl := Lib.hid (below_stored SE.out.bl hg9 SE.out.bl.size SE.out.brl); clear hb9 hg9))
              | fail)
            generalize hR9 : mcs Mast.m0 = R9 at hldF ⊢
            exact bodyPost_ret (v := .tuple #[.agg R9.toArray, .slice none 0 0, .bool false]) (by simp [results, Tryz.results14, go_sem, hszr, hldF]) rfl ⟨RdPost.no (HE.out) (by rw [← hR9]), HBl.out⟩
        · have HE := Lib.hid (HNn.out (HNi.out fun h => hg h.2.1))
          have e1 : (er2 != 0) = false := by simp [he]
          have e2 : (lf.gen != m.gen) = true := by simp [hg]
          clear he hg
          go_wp2_with (first
            | ((with_reducible refine wpList_lf_alloc (o := ⟨some 14, .alloc _, _, _, _, _⟩) rfl rfl ?_); intro wd xd hBd hsd; clear hsd)
            | ((with_reducible refine wpList_lf_store (o := ⟨none, .store 86 (.tmp 14) _, _, _, _, _⟩) rfl _ _ rfl wb.heap.size lf Leaf.lf0 HLi.out Leaf.lf0_in rfl rfl xd ?_); go_loud (intro we xe hge hse; have Ke := below_stored hBd hge hBd.size (Nat.le_refl _); have SE := Lib.hid (SB.out.on Ke); have ROE := Lib.hid (own_below ROB.out Ke); have le := big_load0 Tryz.prog wb.heap.size 0 (lcs lf) ml (by rw [lcs_length HLi.out, HM.out.2.2]) _ xe.range0; obtain ⟨cl0, cl1⟩ := xe.lf; have cm1 : we.cell? ⟨bm, 1, none⟩ = some (.int .i64 m.gen) := SE.out.mb.cell 1; clear hBd xd hge hse SB ROB xe Ke; generalize wb.heap.size = bv at *))
            | (with_reducible refine wpList_ms_zero (o := ⟨some 77, .build _ _, _, _, _, _⟩) rfl rfl ?_)
            | ((with_reducible refine wpList_ms_store (o := ⟨none, .store _ (.tmp 6) _, _, _, _, _⟩) rfl _ _ rfl br Mast.m0 Mast.m0 rfl rfl SE.out.rb ?_); go_loud (intro w9 hb9 hg9 _; have hldF := LA.out _ _ _ hb9; have HBl := Lib.hid (below_stored SE.out.bl hg9 SE.out.bl.size SE.out.brl); clear hb9 hg9))
            | fail)
          generalize hR9 : mcs Mast.m0 = R9 at hldF ⊢
          exact bodyPost_ret (v := .tuple #[.agg R9.toArray, .slice none 0 0, .bool false]) (by simp [results, Tryz.results14, go_sem, hszr, hldF]) rfl ⟨RdPost.no (HE.out) (by rw [← hR9]), HBl.out⟩
      · have HE := Lib.hid (HNn.out (HNi.out fun h => he h.1))
        have e1 : (er2 != 0) = true := by simp [he]
        clear he
        go_wp2_with (first
          | ((with_reducible refine wpList_lf_alloc (o := ⟨some 14, .alloc _, _, _, _, _⟩) rfl rfl ?_); intro wd xd hBd hsd; clear hsd)
          | ((with_reducible refine wpList_lf_store (o := ⟨none, .store 86 (.tmp 14) _, _, _, _, _⟩) rfl _ _ rfl wb.heap.size lf Leaf.lf0 HLi.out Leaf.lf0_in rfl rfl xd ?_); go_loud (intro we xe hge hse; have Ke := below_stored hBd hge hBd.size (Nat.le_refl _); have SE := Lib.hid (SB.out.on Ke); have ROE := Lib.hid (own_below ROB.out Ke); have le := big_load0 Tryz.prog wb.heap.size 0 (lcs lf) ml (by rw [lcs_length HLi.out, HM.out.2.2]) _ xe.range0; obtain ⟨cl0, cl1⟩ := xe.lf; have cm1 : we.cell? ⟨bm, 1, none⟩ = some (.int .i64 m.gen) := SE.out.mb.cell 1; clear hBd xd hge hse SB ROB xe Ke; generalize wb.heap.size = bv at *))
          | (with_reducible refine wpList_ms_zero (o := ⟨some 77, .build _ _, _, _, _, _⟩) rfl rfl ?_)
          | ((with_reducible refine wpList_ms_store (o := ⟨none, .store _ (.tmp 6) _, _, _, _, _⟩) rfl _ _ rfl br Mast.m0 Mast.m0 rfl rfl SE.out.rb ?_); go_loud (intro w9 hb9 hg9 _; have hldF := LA.out _ _ _ hb9; have HBl := Lib.hid (below_stored SE.out.bl hg9 SE.out.bl.size SE.out.brl); clear hb9 hg9))
          | fail)
        generalize hR9 : mcs Mast.m0 = R9 at hldF ⊢
        exact bodyPost_ret (v := .tuple #[.agg R9.toArray, .slice none 0 0, .bool false]) (by simp [results, Tryz.results14, go_sem, hszr, hldF]) rfl ⟨RdPost.no (HE.out) (by rw [← hR9]), HBl.out⟩
    · obtain rfl : P = k := by omega
      have HLs : Hid (lfsR m.gen 0 ps = some (rl ps)) := Lib.hid (lfsR_yes ps 0 fun j p hj => by
        rw [Nat.zero_add]
        exact HAl.out j p (by have h := (List.getElem?_eq_some_iff.1 hj).1; rwa [HPs.out.1] at h) hj)
      have HW3 : Hid (R' = match Tbl.ofT n (rl ps) with
        | none => none
        | some ys => if pz = Mast.layL (footOf m (lvs ys m.gen P)) then some (m, ys) else none) := Lib.hid (by rw [HW2.out, HLs.out])
      obtain ⟨A12, c12, rfl⟩ := own_slice ROA.out
      have HRl : Hid ((rl ps).length = P) := Lib.hid (by rw [rl_length]; exact HPs.out.1)
      have RR : Hid (Rd wr wr.heap.size A12 (lfls (rl ps))) := Lib.hid (by
        have h := ROA.out
        rw [List.take_of_length_le (by rw [HRl.out]; exact Nat.le_refl _)] at h
        exact Rd.own h)
      have c0 : wr.cell? ⟨w.heap.size, 0, none⟩ = some (.int .i64 conv) := SA.out.gb.cell 0
      have c1 : wr.cell? ⟨w.heap.size, 1, none⟩ = some (.int .i64 soft) := SA.out.gb.cell 1
      have c2 : wr.cell? ⟨w.heap.size, 2, none⟩ = some (.int .i64 seq) := SA.out.gb.cell 2
      have c3 : wr.cell? ⟨w.heap.size, 3, none⟩ = some (.int .i64 size) := SA.out.gb.cell 3
      have c4 : wr.cell? ⟨w.heap.size, 4, none⟩ = some (.int .i64 opn) := SA.out.gb.cell 4
      go_wp2_with fail
      refine (HBk.out wr).mono ?_
      rintro e wc ⟨rfl, hbc⟩
      have SC := Lib.hid (SA.out.on hbc)
      have RC := Lib.hid ((RR.out.below hbc).more hbc.size)
      clear hbc SA ROA RR c0 c1 c2 c3 c4 HAl HW2
      have HOf := Lib.hid (rof_any n A12 c12 (rl ps) wc HMs.out.n4 (rl_in ps) (by rw [HRl.out]; have := HP4.out; omega) RC.out)
      rw [HRl.out] at HOf
      go_wp2_with fail
      refine HOf.out.mono ?_
      rintro e wd ⟨hpost, hbd⟩
      have SD := Lib.hid (SC.out.on hbd)
      have HSz := Lib.hid SC.out.bl.size
      clear hbd HOf RC SC
      cases hT : Tbl.ofT n (rl ps) with
      | none =>
        have HE : Hid (R' = none) := Lib.hid (by rw [HW3.out, hT])
        rcases hpost with ⟨_, rfl⟩ | ⟨h, _⟩
        · clear hT
          go_wp2_with (first
            | (with_reducible refine wpList_ms_zero (o := ⟨some 91, .build _ _, _, _, _, _⟩) rfl rfl ?_)
            | ((with_reducible refine wpList_ms_store (o := ⟨none, .store _ (.tmp 6) _, _, _, _, _⟩) rfl _ _ rfl br Mast.m0 Mast.m0 rfl rfl SD.out.rb ?_); go_loud (intro w9 hb9 hg9 _; have hldF := LA.out _ _ _ hb9; have HBl := Lib.hid (below_stored SD.out.bl hg9 SD.out.bl.size SD.out.brl); clear hb9 hg9))
            | fail)
          generalize hR9 : mcs Mast.m0 = R9 at hldF ⊢
          exact bodyPost_ret (v := .tuple #[.agg R9.toArray, .slice none 0 0, .bool false]) (by simp [results, Tryz.results14, go_sem, hszr, hldF]) rfl ⟨RdPost.no (HE.out) (by rw [← hR9]), HBl.out⟩
        · exact absurd h (Tbl.of_none (rl_in ps) hT)
      | some ys =>
        obtain ⟨hrf, hy1, hy2, hy3, hy4⟩ := Tbl.of_rof (rl_in ps) hT
        rcases hpost with ⟨h, _⟩ | ⟨_, V, rfl, hrow⟩
        · exact absurd hrf h
        rw [hy1] at hrow
        rw [HMs.out.hP] at hy2
        have hyl : (ys.take n).length = n := by have := Tbl.pages_up n; rw [HMs.out.hP] at this; simp; omega
        rw [hyl] at hrow
        obtain ⟨A16, c16, rfl⟩ := own_slice hrow
        have HV := Lib.hid (own_base0 hrow HSz.out)
        have HW4 : Hid (R' = if pz = Mast.layL (footOf m (lvs ys m.gen P)) then some (m, ys) else none) := Lib.hid (by rw [HW3.out, hT])
        have HSc := Lib.hid fun (W : World) (h : Rd W W.heap.size A16 (is (ys.take n))) => rcksectors_any m A16 n c16 P (ys.take n) W HOk.out HRi.out hyl HMs.out.n4 HMs.out.hP (by rw [pad_z HMs.out.hP hy2 hy3]; exact nar_of HLs.out hT) h
        rw [pad_z HMs.out.hP hy2 hy3] at HSc
        have HSe : Hid ((secs m ys P)[K]? = some (Mast.layL (footOf m (lvs ys m.gen P)))) := Lib.hid (by
          have h := secs_foot m ys P
          have hl := secs_length m ys P
          rw [HNK.out.2]
          rw [List.getD_eq_getElem?_getD, List.getElem?_eq_getElem (show P + 1 < (secs m ys P).length by omega)] at h
          rw [List.getElem?_eq_getElem (show P + 1 < (secs m ys P).length by omega)]
          exact congrArg some h)
        have HS64 : Hid (P64 (secs m ys P)) := Lib.hid (secs_64 hy2)
        have hldm := LA.out _ _ _ SD.out.mb
        clear hrf hy1 hy2 hy3 hy4 hrow hyl hT HW3 HLs
        generalize Mast.layL (footOf m (lvs ys m.gen P)) = ft at *
        generalize secs m ys P = sl at *
        have HFt : Hid (ft.length = 64) := Lib.hid (HS64.out ft (List.mem_of_getElem? HSe.out))
        go_wp2_with fail
        refine (HSc.out wd (Rd.own HV.out |>.more (Nat.le_refl _))).mono ?_
        rintro e we ⟨V18, rfl, hrow, hbe⟩
        obtain ⟨A18, c18, rfl⟩ := own_slice hrow
        have SE := Lib.hid (SD.out.on hbe)
        have HV2 := Lib.hid (own_below HV.out hbe)
        rw [← HNK.out.1] at hrow ⊢
        obtain ⟨ad2, rfl, _⟩ := big_elem Tryz.prog (m := m6) (Rd.own hrow) (fun y hy => (HS64.out.bs y hy).trans HM.out.1.symm) (by have := HM.out.1; omega) K ft HSe.out
        have hown18 := own_base0 hrow SD.out.bl.size
        clear hrow hbe hldm SD HV HSc
        have hq := fun w' => pg_equal w' ft pz HFt.out HZ.out.1
        have hgd := pg_guard
        have HW5 : Hid ((ft == pz) = true → R' = some (m, ys)) := Lib.hid fun h => by rw [HW4.out, if_pos (eq_of_beq h).symm]
        have HW6 : Hid ((ft == pz) = false → R' = none) := Lib.hid fun h => by rw [HW4.out, if_neg (fun e => ne_of_beq_false h e.symm)]
        clear HW4
        generalize (ft == pz) = q at *
        go_wp2_with fail
        have OS := Lib.hid hown18
        have FO := Lib.hid fun (W : World) (h1 : Box W bm 34 (mcs m)) (h2 : Below w.heap.size w W) (h3 : W.ownsRow w.heap.size 43 64 (.slice (some ad2) N c18) N (pgcs sl)) => (And.intro (LA.out _ _ _ h1) (And.intro (big_at Tryz.prog (m := m6) (Rd.own h3) (fun y hy => (HS64.out.bs y hy).trans HM.out.1.symm) (by have := HM.out.1; omega) K ft HSe.out) (HRow.out _ h2 K pz HZ.out.2.2)) : (loadCellsFrom ⟨bm, 0, none⟩ 0 mr #[]).run Tryz.prog W = .ok (mcs m).toArray W ∧ (loadCellsFrom (ad2.add (K * m6)) 0 m6 #[]).run Tryz.prog W = .ok (bs ft).toArray W ∧ (loadCellsFrom (ad.add (K * m6)) 0 m6 #[]).run Tryz.prog W = .ok (bs pz).toArray W)
        refine wp_region_held_drew (S := (fun w' => (loadCellsFrom ⟨bm, 0, none⟩ 0 mr #[]).run Tryz.prog w' = .ok (mcs m).toArray w' ∧ (loadCellsFrom (ad2.add (K * m6)) 0 m6 #[]).run Tryz.prog w' = .ok (bs ft).toArray w' ∧ (loadCellsFrom (ad.add (K * m6)) 0 m6 #[]).run Tryz.prog w' = .ok (bs pz).toArray w')) (by kernel_rfl) (FO.out _ (SE.out.on (Below.refl _ _).drew).mb (bthen SE.out.bl (Below.refl _ _).drew) (own_below OS.out (Below.refl _ _).drew)) (fun hHeld => ?_)
        refine wpAnyH_take (i := 0) (oi := ⟨some 95, .load _ _, _, _, _, _⟩) (v := ?v901) rfl (by kernel_rfl) (by kernel_rfl) (by kernel_rfl) (fun _ _ _ h => h) (Or.inl ⟨by rfl, ?hy901⟩) (by assumption) ?rest901
        case hy901 =>
          intro w9 hSw
          obtain ⟨hS1, hS2, hS3⟩ := hSw
          go_simp
          try with_reducible rfl
        try simp only [Act.put, List.setIfInBounds_toArray, List.set_cons_zero, List.set_cons_succ]
        refine wpAnyH_take (i := 1) (oi := ⟨some 96, .move _, _, _, _, _⟩) (v := ?v902) rfl (by kernel_rfl) (by kernel_rfl) (by kernel_rfl) (fun _ _ _ h => h) (Or.inl ⟨by rfl, ?hy902⟩) (by assumption) ?rest902
        case hy902 =>
          intro w9 hSw
          obtain ⟨hS1, hS2, hS3⟩ := hSw
          go_simp
          try with_reducible rfl
        try simp only [Act.put, List.setIfInBounds_toArray, List.set_cons_zero, List.set_cons_succ]
        refine wpAnyH_take (i := 2) (oi := ⟨some 97, .move _, _, _, _, _⟩) (v := ?v903) rfl (by kernel_rfl) (by kernel_rfl) (by kernel_rfl) (fun _ _ _ h => h) (Or.inl ⟨by rfl, ?hy903⟩) (by assumption) ?rest903
        case hy903 =>
          intro w9 hSw
          obtain ⟨hS1, hS2, hS3⟩ := hSw
          go_simp
          try with_reducible rfl
        try simp only [Act.put, List.setIfInBounds_toArray, List.set_cons_zero, List.set_cons_succ]
        refine wpAnyH_take (i := 3) (oi := ⟨some 98, .move _, _, _, _, _⟩) (v := ?v904) rfl (by kernel_rfl) (by kernel_rfl) (by kernel_rfl) (fun _ _ _ h => h) (Or.inl ⟨by rfl, ?hy904⟩) (by assumption) ?rest904
        case hy904 =>
          intro w9 hSw
          obtain ⟨hS1, hS2, hS3⟩ := hSw
          go_simp
          try with_reducible rfl
        try simp only [Act.put, List.setIfInBounds_toArray, List.set_cons_zero, List.set_cons_succ]
        refine wpAnyH_take (i := 4) (oi := ⟨some 99, .binOp _ _ _ _ _, _, _, _, _⟩) (v := ?v905) rfl (by kernel_rfl) (by kernel_rfl) (by kernel_rfl) (fun _ _ _ h => h) (Or.inl ⟨by rfl, ?hy905⟩) (by assumption) ?rest905
        case hy905 =>
          intro w9 hSw
          obtain ⟨hS1, hS2, hS3⟩ := hSw
          go_simp
          try with_reducible rfl
        try simp only [Act.put, List.setIfInBounds_toArray, List.set_cons_zero, List.set_cons_succ]
        refine wpAnyH_take (i := 5) (oi := ⟨some 100, .indexAddr _ _ _, _, _, _, _⟩) (v := ?v906) rfl (by kernel_rfl) (by kernel_rfl) (by kernel_rfl) (fun _ _ _ h => h) (Or.inl ⟨by rfl, ?hy906⟩) (by assumption) ?rest906
        case hy906 =>
          intro w9 hSw
          obtain ⟨hS1, hS2, hS3⟩ := hSw
          go_simp
          try with_reducible rfl
        try simp only [Act.put, List.setIfInBounds_toArray, List.set_cons_zero, List.set_cons_succ]
        refine wpAnyH_take (i := 6) (oi := ⟨some 101, .load _ _, _, _, _, _⟩) (v := ?v907) rfl (by kernel_rfl) (by kernel_rfl) (by kernel_rfl) (fun _ _ _ h => h) (Or.inl ⟨by rfl, ?hy907⟩) (by assumption) ?rest907
        case hy907 =>
          intro w9 hSw
          obtain ⟨hS1, hS2, hS3⟩ := hSw
          go_simp
          try with_reducible rfl
        try simp only [Act.put, List.setIfInBounds_toArray, List.set_cons_zero, List.set_cons_succ]
        refine wpAnyH_take (i := 7) (oi := ⟨some 102, .move _, _, _, _, _⟩) (v := ?v908) rfl (by kernel_rfl) (by kernel_rfl) (by kernel_rfl) (fun _ _ _ h => h) (Or.inl ⟨by rfl, ?hy908⟩) (by assumption) ?rest908
        case hy908 =>
          intro w9 hSw
          obtain ⟨hS1, hS2, hS3⟩ := hSw
          go_simp
          try with_reducible rfl
        try simp only [Act.put, List.setIfInBounds_toArray, List.set_cons_zero, List.set_cons_succ]
        refine wpAnyH_take (i := 8) (oi := ⟨some 103, .move _, _, _, _, _⟩) (v := ?v909) rfl (by kernel_rfl) (by kernel_rfl) (by kernel_rfl) (fun _ _ _ h => h) (Or.inl ⟨by rfl, ?hy909⟩) (by assumption) ?rest909
        case hy909 =>
          intro w9 hSw
          obtain ⟨hS1, hS2, hS3⟩ := hSw
          go_simp
          try with_reducible rfl
        try simp only [Act.put, List.setIfInBounds_toArray, List.set_cons_zero, List.set_cons_succ]
        refine wpAnyH_take (i := 9) (oi := ⟨some 104, .binOp _ _ _ _ _, _, _, _, _⟩) (v := ?v910) rfl (by kernel_rfl) (by kernel_rfl) (by kernel_rfl) (fun _ _ _ h => h) (Or.inl ⟨by rfl, ?hy910⟩) (by assumption) ?rest910
        case hy910 =>
          intro w9 hSw
          obtain ⟨hS1, hS2, hS3⟩ := hSw
          go_simp
          try with_reducible rfl
        try simp only [Act.put, List.setIfInBounds_toArray, List.set_cons_zero, List.set_cons_succ]
        refine wpAnyH_take (i := 10) (oi := ⟨some 105, .indexAddr _ _ _, _, _, _, _⟩) (v := ?v911) rfl (by kernel_rfl) (by kernel_rfl) (by kernel_rfl) (fun _ _ _ h => h) (Or.inl ⟨by rfl, ?hy911⟩) (by assumption) ?rest911
        case hy911 =>
          intro w9 hSw
          obtain ⟨hS1, hS2, hS3⟩ := hSw
          go_simp
          try with_reducible rfl
        try simp only [Act.put, List.setIfInBounds_toArray, List.set_cons_zero, List.set_cons_succ]
        refine wpAnyH_take (i := 11) (oi := ⟨some 106, .load _ _, _, _, _, _⟩) (v := ?v912) rfl (by kernel_rfl) (by kernel_rfl) (by kernel_rfl) (fun _ _ _ h => h) (Or.inl ⟨by rfl, ?hy912⟩) (by assumption) ?rest912
        case hy912 =>
          intro w9 hSw
          obtain ⟨hS1, hS2, hS3⟩ := hSw
          go_simp
          try with_reducible rfl
        try simp only [Act.put, List.setIfInBounds_toArray, List.set_cons_zero, List.set_cons_succ]
        refine wpAnyH_take (i := 12) (oi := ⟨some 107, .binOp _ _ _ _ _, _, _, _, _⟩) (v := ?v913) rfl (by kernel_rfl) (by kernel_rfl) (by kernel_rfl) (fun _ _ _ h => h) (Or.inl ⟨by rfl, ?hy913⟩) (by assumption) ?rest913
        case hy913 =>
          intro w9 hSw
          obtain ⟨hS1, hS2, hS3⟩ := hSw
          go_simp
          try with_reducible rfl
        try simp only [Act.put, List.setIfInBounds_toArray, List.set_cons_zero, List.set_cons_succ]
        refine wpAnyH_ready (rs := [13]) (by kernel_rfl) (by simp) ?_
        refine AllReadyH.cons (o := ⟨none, .store _ _ _, _, _, _, _⟩) rfl (fun K hK => ?_) AllReadyH.nil
        refine step_ms_store rfl _ _ rfl br m Mast.m0 rfl (by rfl) (SE.out.on (Below.refl _ _).drew).rb ?_
        intro w9 hb9 hg9 _
        have SX := SE.out.on (Below.refl we.heap.size we).drew
        have hldF := LA.out _ _ _ hb9
        have HBl := Lib.hid (below_stored SX.bl hg9 SX.bl.size SX.brl)
        have HV9 := Lib.hid (own_same (own_below HV2.out (Below.refl _ _).drew) fun g hg' => hg9.block g ((own_below HV2.out (Below.refl _ _).drew).lt g hg').2 (fun e2 => SX.rb.ne_row (own_below HV2.out (Below.refl _ _).drew) hg' (by decide) (by injection e2 with e2; exact e2.symm)))
        have OS9 := own_same (own_below OS.out (Below.refl _ _).drew) fun g hg' => hg9.block g ((own_below OS.out (Below.refl _ _).drew).lt g hg').2 (fun e2 => SX.rb.ne_row (own_below OS.out (Below.refl _ _).drew) hg' (by decide) (by injection e2 with e2; exact e2.symm))
        have MB9 : Box w9 bm 34 (mcs m) := SX.mb.grown hg9 (by have := SX.brm; omega)
        clear hHeld
        refine hK.out _ _ (FO.out _ MB9 HBl.out OS9) (fun hHeld => ?_)
        clear hK K
        try simp only [Act.put, List.set_cons_zero, List.set_cons_succ]
        refine wpAnyH_take (i := 14) (oi := ⟨some 7, .assign _, _, _, _, _⟩) (v := ?v914) rfl (by kernel_rfl) (by kernel_rfl) (by kernel_rfl) (fun _ _ _ h => h) (Or.inl ⟨by rfl, ?hy914⟩) (by assumption) ?rest914
        case hy914 =>
          intro w9 hSw
          obtain ⟨hS1, hS2, hS3⟩ := hSw
          go_simp
          try with_reducible rfl
        try simp only [Act.put, List.setIfInBounds_toArray, List.set_cons_zero, List.set_cons_succ]
        refine wpAnyH_take (i := 15) (oi := ⟨some 8, .assign _, _, _, _, _⟩) (v := ?v915) rfl (by kernel_rfl) (by kernel_rfl) (by kernel_rfl) (fun _ _ _ h => h) (Or.inl ⟨by rfl, ?hy915⟩) (by assumption) ?rest915
        case hy915 =>
          intro w9 hSw
          obtain ⟨hS1, hS2, hS3⟩ := hSw
          go_simp
          try with_reducible rfl
        try simp only [Act.put, List.setIfInBounds_toArray, List.set_cons_zero, List.set_cons_succ]
        refine wpAnyH_done (by kernel_rfl) ?_ _
        clear hHeld SX OS9 MB9
        go_wp2_with fail
        generalize hR9 : mcs m = R9 at hldF ⊢
        cases q with
        | false => exact bodyPost_ret (v := .tuple #[.agg R9.toArray, .slice A16 n c16, .bool false]) (by simp [results, Tryz.results14, go_sem, hszr, hldF]) rfl ⟨RdPost.no (HW6.out rfl) (by rw [← hR9]), HBl.out⟩
        | true => exact bodyPost_ret (v := .tuple #[.agg R9.toArray, .slice A16 n c16, .bool true]) (by simp [results, Tryz.results14, go_sem, hszr, hldF]) rfl ⟨RdPost.yes (HW5.out rfl) (by rw [← hR9]) HV9.out, HBl.out⟩
end Go.Proofs.YtgnpohkippegpaaGreat

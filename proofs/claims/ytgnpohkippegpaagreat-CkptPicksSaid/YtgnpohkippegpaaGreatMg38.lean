/-
  CkI
-/
import Derived.Test.YtgnpohkippegpaaGreatMg37
import Derived.Test.YtgnpohkippegpaaGreatMg30
/-
  Package ckpt: what stands in a region: whole or not.
-/
namespace Go.Proofs.YtgnpohkippegpaaGreat
open Go.RowKit Geom Zone Dev Ckp Word
set_option linter.unusedVariables false

/-- where all orders of a region come to one end, but for two blocks -/
def Meet2 (A : Nat → Nat → Act) (R : World → Nat → Nat → Prop) : Exit → Act → World → Prop
  | .normal, a, w => ∃ b g, R w b g ∧ a = A b g
  | _, _, _ => False
theorem wp_meet2 {P : Program} {c : Code} {Q : Exit → Act → World → Prop} {a : Act} {w : World} {A : Nat → Nat → Act} (R : World → Nat → Nat → Prop) (h : c.wp P (Meet2 A R) a w) (h2 : ∀ w' b g, R w' b g → Q .normal (A b g) w') : c.wp P Q a w :=
  Code.wp_mono (fun e a' w' hm => by
    cases e <;> first | exact (hm : False).elim | (obtain ⟨b, g, hr, rfl⟩ := (hm : ∃ b g, R w' b g ∧ a' = A b g); exact h2 _ b g hr)) h
section
variable {w : World} {ops : Array Oper} {o : Oper} {a : Act} {K : Act → World → Prop} {Q : Exit → Act → World → Prop} {E : Prop}
/-- a page's variable is made, at a step of a region that draws its order -/
theorem step_pg_alloc (hgd : o.guard = none) (ho : o.op = .alloc 43)
    (h : ∀ w', Box w' w.heap.size 43 (bs pg0) → Below w.heap.size w w' → w'.heap.size = w.heap.size + 1 → K (a.put o.dst (.pointer (some ⟨w.heap.size, 0, none⟩))) w') :
    if Region.wanted o (yielded ops a.tmps) = true then Oper.wp Tryz.prog o a w K Q else E := by
  have hw : Region.wanted o (yielded ops a.tmps) = true := by simp [Region.wanted, hgd]
  rw [if_pos hw]
  have e : (Instr.alloc 43 true (.tuple #[])).run Tryz.prog w = .ok (.pointer (some ⟨w.heap.size, 0, none⟩)) (w.alloc (.cells (bs pg0).toArray 43)) := by
    simp [Instr.alloc, pg_zero w, newVar, newRow, newObj, Value.cells]
    rfl
  unfold Oper.wp execOp
  simp only [ho, Sem.run_bind, e, Result.andThen_ok]
  exact h _ (Box.new w _ (bs pg0)) ((Below.refl _ _).alloc (Nat.le_refl _) _) (by simp)
/-- a page is laid into its variable, at a step of a region that draws its order -/
theorem step_pg_store (hgd : o.guard = none) (x y : Operand) (ho : o.op = .store 43 x y) (g : Nat) (p old : List Int) (hp : p.length = 64) (hold : old.length = 64)
    (hx : a.eval x = .pointer (some ⟨g, 0, none⟩)) (hy : a.eval y = .agg (bs p).toArray) (hb : Box w g 43 (bs old)) (h : ∀ w', Box w' g 43 (bs p) → w.grownBy w' (some g) → w'.heap.size = w.heap.size → K (a.put o.dst undef) w') :
    if Region.wanted o (yielded ops a.tmps) = true then Oper.wp Tryz.prog o a w K Q else E := by
  have hw : Region.wanted o (yielded ops a.tmps) = true := by simp [Region.wanted, hgd]
  rw [if_pos hw]
  have hrun := run_storeVar_row (P := Tryz.prog) w g 43 43 (bs old).toArray (bs p).toArray hb (by simpa using pg_size hp) (by simp [bs_length, hp, hold]) (all_oneCell_toArray (fun u hu => bs_one _ _ hu))
  have hK := h (w.setRow g (bs p).toArray) (setRow_heap w g _ _ _ _ hb) ⟨rfl, rfl, rfl, by simp [World.setRow], fun k _ hk => setRow_other w g k _ (by intro e; exact hk (by rw [e]))⟩ (by simp [World.setRow])
  unfold Oper.wp execOp
  simp only [ho, hx, hy, Instr.storeAt, Instr.sureAddr, Sem.run_bind, Sem.run_pure, Result.andThen_ok, hrun]
  exact hK
end
namespace Ckp
open Tbl
/-- as the program holds it: the leaves' sectors themselves are summed -/
def whS (n P : Nat) (low : Int) (L : List (List Int)) : Option (Mast.Mst × List Int) :=
  if (Mast.readS (L.getD 0 [])).2 = 0 ∧ headB (Mast.readS (L.getD 0 [])).1 (P : Int) = true ∧ (Mast.readS (L.getD 0 [])).1.gen % 2 = low then
    match tabR n (Mast.readS (L.getD 0 [])).1.gen ((L.drop 1).take P) with
    | none => none
    | some ys => if L.getD (P + 1) [] = Mast.layL (footOf (Mast.readS (L.getD 0 [])).1 ((L.drop 1).take P)) then some ((Mast.readS (L.getD 0 [])).1, ys) else none
  else none
theorem head_iff {m : Mast.Mst} {P : Int} : headB m P = true ↔ Mast.okB m = true ∧ m.foot = false ∧ m.pages = P := by
  unfold headB
  simp [Bool.and_eq_true]
theorem whole_eq {n P : Nat} {low : Int} {L : List (List Int)} (hP : Tbl.pages n = P) : wholeR n P low L = whS n P low L := by
  subst hP
  unfold wholeR whS
  generalize hm : Mast.readS (L.getD 0 []) = r
  by_cases hc : r.2 = 0 ∧ r.1.foot = false ∧ r.1.pages = (Tbl.pages n : Int) ∧ r.1.gen % 2 = low
  · obtain ⟨c1, c2, c3, c4⟩ := hc
    have hk := (Mast.read_ok (by rw [hm]; exact c1)).1
    rw [hm] at hk
    rw [if_pos ⟨c1, c2, c3, c4⟩, if_pos ⟨c1, head_iff.2 ⟨hk, c2, c3⟩, c4⟩]
    unfold tabR
    cases h1 : lfsR r.1.gen 0 ((L.drop 1).take (Tbl.pages n)) with
    | none => rfl
    | some ls =>
      simp only
      cases h2 : ofT n ls with
      | none => rfl
      | some ys =>
        simp only
        obtain ⟨p1, p2⟩ := lfsR_is h1
        obtain ⟨q1, q2⟩ := ls_of (gen := r.1.gen) (fun k x hk => by have := p2 k x hk; exact ⟨this.1, by simpa using this.2.1, this.2.2.1⟩) h2
        have e : lvs ys r.1.gen (Tbl.pages n) = (L.drop 1).take (Tbl.pages n) := by rw [p1, q1]; rfl
        rw [e]
  · rw [if_neg hc, if_neg]
    rintro ⟨c1, c2, c3⟩
    obtain ⟨_, d1, d2⟩ := head_iff.1 c2
    exact hc ⟨c1, d1, d2, c3⟩
end Ckp
namespace Ckp
theorem pgcs_cut {L : List (List Int)} (h : P64 L) {P : Nat} : ((pgcs L).drop 64).take (P * 64) = pgcs ((L.drop 1).take P) := by
  cases L with
  | nil => simp [pgcs]
  | cons p L =>
    have e : pgcs (p :: L) = bs p ++ pgcs L := rfl
    have hp : (bs p).length = 64 := (bs_length p).trans (h p List.mem_cons_self)
    have h' : P64 L := fun q hq => h q (List.mem_cons_of_mem _ hq)
    rw [e, ← hp, List.drop_left, List.drop_succ_cons, List.drop_zero, hp]
    clear e hp h
    induction L generalizing P with
    | nil => simp [pgcs]
    | cons q L ih =>
      cases P with
      | zero => simp [pgcs]
      | succ P =>
        have e : pgcs (q :: L) = bs q ++ pgcs L := rfl
        have hq : (bs q).length = 64 := (bs_length q).trans (h' q List.mem_cons_self)
        have ih' := ih (P := P) fun r hr => h' r (List.mem_cons_of_mem _ hr)
        rw [e, show (P + 1) * 64 = (bs q).length + P * 64 by omega, List.take_length_add_append, ih', List.take_succ_cons]
        rfl
end Ckp
/-- what whole answers -/
def WhPost (w w' : World) (n : Nat) (R : Option (Mast.Mst × List Int)) (e : Ending) : Prop :=
  match R with
  | none => e = .returned (.tuple #[.agg (mcs Mast.m0).toArray, .pointer none, .bool false])
  | some (m, ys) => ∃ d g h, e = .returned (.tuple #[.agg (mcs m).toArray, tp d, .bool true]) ∧ TbIs w' d g h n ys (List.replicate (Tbl.pages n) false) ∧ w.heap.size ≤ d ∧ w.heap.size ≤ g ∧ w.heap.size ≤ h
theorem WhPost.no {w w' : World} {n : Nat} {R : Option (Mast.Mst × List Int)} {e : Ending} (h : R = none) (he : e = .returned (.tuple #[.agg (mcs Mast.m0).toArray, .pointer none, .bool false])) : WhPost w w' n R e := by subst h; exact he
theorem WhPost.yes {w w' : World} {n : Nat} {R : Option (Mast.Mst × List Int)} {e : Ending} {d g h : Nat} {m : Mast.Mst} {ys : List Int} (hR : R = some (m, ys)) (he : e = .returned (.tuple #[.agg (mcs m).toArray, tp d, .bool true])) (t : TbIs w' d g h n ys (List.replicate (Tbl.pages n) false)) (h1 : w.heap.size ≤ d) (h2 : w.heap.size ≤ g) (h3 : w.heap.size ≤ h) : WhPost w w' n R e := by subst hR; exact ⟨d, g, h, he, t, h1, h2, h3⟩
/-- the variables of whole -/
structure WhSt (w W : World) (br g h : Nat) (gs : List Value) (p0 pz : List Int) : Prop where
  rb : Box W br 34 (mcs Mast.m0)
  ge : Box W w.heap.size 23 gs
  gb : Box W g 43 (bs p0)
  hb : Box W h 43 (bs pz)
  bl : Below w.heap.size w W
  le : w.heap.size ≤ br
structure WhSv (w W : World) (br h v : Nat) (gs : List Value) (pz : List Int) (m : Mast.Mst) : Prop where
  rb : Box W br 34 (mcs Mast.m0)
  ge : Box W w.heap.size 23 gs
  hb : Box W h 43 (bs pz)
  vb : Box W v 34 (mcs m)
  bl : Below w.heap.size w W
  le : w.heap.size ≤ br
section
variable {w W W' : World} {br g h v : Nat} {gs : List Value} {p0 pz : List Int} {m : Mast.Mst}
theorem WhSt.on (s : WhSt w W br g h gs p0 pz) (hb : Below W.heap.size W W') : WhSt w W' br g h gs p0 pz := ⟨s.rb.on hb, s.ge.on hb, s.gb.on hb, s.hb.on hb, bthen s.bl hb, s.le⟩
theorem WhSt.var (s : WhSt w W br g h gs p0 pz) (hb : Below W.heap.size W W') (x : Box W' v 34 (mcs m)) : WhSv w W' br h v gs pz m := ⟨s.rb.on hb, s.ge.on hb, s.hb.on hb, x, bthen s.bl hb, s.le⟩
theorem WhSv.on (s : WhSv w W br h v gs pz m) (hb : Below W.heap.size W W') : WhSv w W' br h v gs pz m := ⟨s.rb.on hb, s.ge.on hb, s.hb.on hb, s.vb.on hb, bthen s.bl hb, s.le⟩
end
set_option maxRecDepth 100000 in
set_option maxHeartbeats 4000000 in
theorem ckwhole_any (conv soft seq size opn low : Int) (n P N K b : Nat) (L : List (List Int)) (w : World) (H : Some conv seq size) (hb : blocks seq size = (n : Int)) (hP : Tbl.pages n = P) (hN : N = P + 2) (hK : K = P + 1) (hL : L.length = N) (hl : P64 L) (ho : Oct L) (hx : Box w b 43 (pgcs L)) (hPg : Geom.pages seq size = (P : Int)) :
    Calls Tryz.prog 40 #[gvl conv soft seq size opn, .int .i64 low, rowAt b N] w fun e w' => WhPost w w' n (whS n P low L) e ∧ Below w.heap.size w w' := by
  obtain ⟨m6, hm6, hszp⟩ := big_size (P := Tryz.prog) (t := 43) (s := 64) (by kernel_rfl)
  obtain ⟨mr, hmr, hszr⟩ := big_size (P := Tryz.prog) (t := 34) (s := 6) (by kernel_rfl)
  have hm60 : ¬ m6 = 0 := by omega
  have hmr0 : ¬ mr = 0 := by omega
  have HM := Lib.hid (And.intro hm6 hmr)
  have hP410 : P ≤ 410 := by rw [← hP]; exact pages_le (by have := blocks_bd H; omega)
  have hk0 : (0 : Int) ≤ (K : Int) := by omega
  have hk1 : (K : Int) < (N : Int) := by omega
  have hk2 : (K : Int) ≤ (N : Int) := by omega
  have hk3 : (1 : Int) ≤ (K : Int) := by omega
  have hn0 : (0 : Int) < (N : Int) := by omega
  have hn1 : ¬ N = 1 := by omega
  have hn00 : 0 < N := by omega
  have hkw : IntKind.i64.wrap ((N : Int) - 1) = (K : Int) := by rw [IntWalk.i64_in _ (by omega)]; omega
  have HNK := Lib.hid (And.intro hP (And.intro hN hK))
  obtain ⟨p0, hp0⟩ : ∃ p, L[0]? = some p := ⟨L[0]'(by omega), List.getElem?_eq_getElem _⟩
  obtain ⟨pz, hpz⟩ : ∃ p, L[K]? = some p := ⟨L[K]'(by omega), List.getElem?_eq_getElem _⟩
  have H0 := Lib.hid (And.intro (hl p0 (List.mem_of_getElem? hp0)) (And.intro (ho p0 (List.mem_of_getElem? hp0)) hp0))
  have HZ := Lib.hid (And.intro (hl pz (List.mem_of_getElem? hpz)) (And.intro (ho pz (List.mem_of_getElem? hpz)) hpz))
  have HL := Lib.hid (And.intro hL (And.intro hl ho))
  have HX := Lib.hid hx
  have HSm := Lib.hid H
  have HPg := Lib.hid hPg
  have HTa := Lib.hid fun gen Q cap A ps w' hQ hQ5 hl ho hr => cktable_any conv soft seq size opn gen n Q cap A ps w' H hb hQ hQ5 hl ho hr
  have LA := Lib.hid fun (W : World) (b : Nat) (x : Mast.Mst) (h : Box W b 34 (mcs x)) => big_load0 Tryz.prog b 0 (mcs x) mr (by rw [mcs_length, HM.out.2]) W h.range0
  clear hm6 hmr hN hK hP hL hl ho hx hp0 hpz H hb hPg
  go_enter Tryz.func40, Tryz.ntmps40
  go_wp2_with (first
    | ((with_reducible refine wpList_box_box _ (o := ⟨some 3, .box _ _, _, _, _, _⟩) rfl _ _ rfl (gcl conv soft seq size opn) rfl ?_); intro w1 x0 hB1 hs1; clear hs1)
    | ((with_reducible refine wpList_ms_alloc (o := ⟨some 6, .alloc _, _, _, _, _⟩) rfl rfl ?_); intro w2 x1 hB2 hs2; clear hs2)
    | fail)
  have HS := Lib.hid (show Bxs w w2 [(w1.heap.size, 34, mcs Mast.m0), (w.heap.size, 23, gcl conv soft seq size opn)] from ((Bxs.nil w).add hB1 x0).add hB2 x1)
  have HBr := Lib.hid hB1.size
  generalize w1.heap.size = br at *
  clear x0 hB1 x1 hB2
  have SO := Lib.hid fun w' (h : Below w2.heap.size w2 w') => show (loadCellsFrom ⟨b, 0, none⟩ 0 m6 #[]).run Tryz.prog w' = .ok (bs p0).toArray w' ∧ (loadCellsFrom ⟨b, K * m6, none⟩ 0 m6 #[]).run Tryz.prog w' = .ok (bs pz).toArray w' from by
    have x := (HX.out.on HS.out.below).on h
    refine ⟨?_, ?_⟩
    · exact big_load0 Tryz.prog b 0 (bs p0) m6 (by rw [bs_length, H0.out.1, HM.out.1]) w' (x.range _ _ fun j v hv => by
        have := pgcs_get HL.out.2.1 H0.out.2.2 (j := j) (by have := (List.getElem?_eq_some_iff.1 hv).1; rw [bs_length, H0.out.1] at this; exact this)
        rw [Nat.zero_mul] at this
        rw [this]; exact hv)
    · exact big_load0 Tryz.prog b (K * m6) (bs pz) m6 (by rw [bs_length, HZ.out.1, HM.out.1]) w' (x.range _ _ fun j v hv => by
        have := pgcs_get HL.out.2.1 HZ.out.2.2 (j := j) (by have := (List.getElem?_eq_some_iff.1 hv).1; rw [bs_length, HZ.out.1] at this; exact this)
        rw [HM.out.1, this]; exact hv)
  apply wp_meet2 (fun W g h => Box W g 43 (bs p0) ∧ Box W h 43 (bs pz) ∧ Below w2.heap.size w2 W ∧ w2.heap.size ≤ g ∧ w2.heap.size ≤ h)
  case h =>
    refine wp_region_held_drew (S := (fun w' => (loadCellsFrom ⟨b, 0, none⟩ 0 m6 #[]).run Tryz.prog w' = .ok (bs p0).toArray w' ∧ (loadCellsFrom ⟨b, K * m6, none⟩ 0 m6 #[]).run Tryz.prog w' = .ok (bs pz).toArray w')) (by kernel_rfl) (SO.out _ (Below.refl _ _).drew) (fun hHeld => ?_)
    refine wpAnyH_take (i := 0) (oi := ⟨some 16, .move _, _, _, _, _⟩) (v := ?v1) rfl (by kernel_rfl) (by kernel_rfl) (by kernel_rfl) (fun _ _ _ h => h) (Or.inl ⟨by rfl, ?hy1⟩) (by assumption) ?rest1
    case hy1 =>
      intro w hSw
      obtain ⟨hS1, hS2⟩ := hSw
      go_simp
      try with_reducible rfl
    try simp only [Act.put, List.setIfInBounds_toArray, List.set_cons_zero, List.set_cons_succ]
    refine wpAnyH_take (i := 1) (oi := ⟨some 17, .indexAddr _ _ _, _, _, _, _⟩) (v := ?v2) rfl (by kernel_rfl) (by kernel_rfl) (by kernel_rfl) (fun _ _ _ h => h) (Or.inl ⟨by rfl, ?hy2⟩) (by assumption) ?rest2
    case hy2 =>
      intro w hSw
      obtain ⟨hS1, hS2⟩ := hSw
      go_simp
      try with_reducible rfl
    try simp only [Act.put, List.setIfInBounds_toArray, List.set_cons_zero, List.set_cons_succ]
    refine wpAnyH_take (i := 2) (oi := ⟨some 18, .load _ _, _, _, _, _⟩) (v := ?v3) rfl (by kernel_rfl) (by kernel_rfl) (by kernel_rfl) (fun _ _ _ h => h) (Or.inl ⟨by rfl, ?hy3⟩) (by assumption) ?rest3
    case hy3 =>
      intro w hSw
      obtain ⟨hS1, hS2⟩ := hSw
      go_simp
      try with_reducible rfl
    try simp only [Act.put, List.setIfInBounds_toArray, List.set_cons_zero, List.set_cons_succ]
    refine wpAnyH_take (i := 3) (oi := ⟨some 19, .move _, _, _, _, _⟩) (v := ?v4) rfl (by kernel_rfl) (by kernel_rfl) (by kernel_rfl) (fun _ _ _ h => h) (Or.inl ⟨by rfl, ?hy4⟩) (by assumption) ?rest4
    case hy4 =>
      intro w hSw
      obtain ⟨hS1, hS2⟩ := hSw
      go_simp
      try with_reducible rfl
    try simp only [Act.put, List.setIfInBounds_toArray, List.set_cons_zero, List.set_cons_succ]
    refine wpAnyH_take (i := 4) (oi := ⟨some 20, .move _, _, _, _, _⟩) (v := ?v5) rfl (by kernel_rfl) (by kernel_rfl) (by kernel_rfl) (fun _ _ _ h => h) (Or.inl ⟨by rfl, ?hy5⟩) (by assumption) ?rest5
    case hy5 =>
      intro w hSw
      obtain ⟨hS1, hS2⟩ := hSw
      go_simp
      try with_reducible rfl
    try simp only [Act.put, List.setIfInBounds_toArray, List.set_cons_zero, List.set_cons_succ]
    refine wpAnyH_take (i := 5) (oi := ⟨some 21, .call _, _, _, _, _⟩) (v := ?v6) rfl (by kernel_rfl) (by kernel_rfl) (by kernel_rfl) (fun _ _ _ h => h) (Or.inl ⟨by rfl, ?hy6⟩) (by assumption) ?rest6
    case hy6 =>
      intro w hSw
      obtain ⟨hS1, hS2⟩ := hSw
      go_simp
      try with_reducible rfl
    try simp only [Act.put, List.setIfInBounds_toArray, List.set_cons_zero, List.set_cons_succ]
    refine wpAnyH_take (i := 6) (oi := ⟨some 22, .binOp _ _ _ _ _, _, _, _, _⟩) (v := ?v7) rfl (by kernel_rfl) (by kernel_rfl) (by kernel_rfl) (fun _ _ _ h => h) (Or.inl ⟨by rfl, ?hy7⟩) (by assumption) ?rest7
    case hy7 =>
      intro w hSw
      obtain ⟨hS1, hS2⟩ := hSw
      go_simp
      try with_reducible rfl
    try simp only [Act.put, List.setIfInBounds_toArray, List.set_cons_zero, List.set_cons_succ]
    refine wpAnyH_take (i := 7) (oi := ⟨some 23, .slice _ _ _ _ _, _, _, _, _⟩) (v := ?v8) rfl (by kernel_rfl) (by kernel_rfl) (by kernel_rfl) (fun _ _ _ h => h) (Or.inl ⟨by rfl, ?hy8⟩) (by assumption) ?rest8
    case hy8 =>
      intro w hSw
      obtain ⟨hS1, hS2⟩ := hSw
      go_simp
      try with_reducible rfl
    try simp only [Act.put, List.setIfInBounds_toArray, List.set_cons_zero, List.set_cons_succ]
    refine wpAnyH_take (i := 8) (oi := ⟨some 24, .move _, _, _, _, _⟩) (v := ?v9) rfl (by kernel_rfl) (by kernel_rfl) (by kernel_rfl) (fun _ _ _ h => h) (Or.inl ⟨by rfl, ?hy9⟩) (by assumption) ?rest9
    case hy9 =>
      intro w hSw
      obtain ⟨hS1, hS2⟩ := hSw
      go_simp
      try with_reducible rfl
    try simp only [Act.put, List.setIfInBounds_toArray, List.set_cons_zero, List.set_cons_succ]
    refine wpAnyH_take (i := 9) (oi := ⟨some 25, .move _, _, _, _, _⟩) (v := ?v10) rfl (by kernel_rfl) (by kernel_rfl) (by kernel_rfl) (fun _ _ _ h => h) (Or.inl ⟨by rfl, ?hy10⟩) (by assumption) ?rest10
    case hy10 =>
      intro w hSw
      obtain ⟨hS1, hS2⟩ := hSw
      go_simp
      try with_reducible rfl
    try simp only [Act.put, List.setIfInBounds_toArray, List.set_cons_zero, List.set_cons_succ]
    refine wpAnyH_take (i := 10) (oi := ⟨some 26, .call _, _, _, _, _⟩) (v := ?v11) rfl (by kernel_rfl) (by kernel_rfl) (by kernel_rfl) (fun _ _ _ h => h) (Or.inl ⟨by rfl, ?hy11⟩) (by assumption) ?rest11
    case hy11 =>
      intro w hSw
      obtain ⟨hS1, hS2⟩ := hSw
      go_simp
      try with_reducible rfl
    try simp only [Act.put, List.setIfInBounds_toArray, List.set_cons_zero, List.set_cons_succ]
    refine wpAnyH_take (i := 11) (oi := ⟨some 27, .binOp _ _ _ _ _, _, _, _, _⟩) (v := ?v12) rfl (by kernel_rfl) (by kernel_rfl) (by kernel_rfl) (fun _ _ _ h => h) (Or.inl ⟨by rfl, ?hy12⟩) (by assumption) ?rest12
    case hy12 =>
      intro w hSw
      obtain ⟨hS1, hS2⟩ := hSw
      go_simp
      try with_reducible rfl
    try simp only [Act.put, List.setIfInBounds_toArray, List.set_cons_zero, List.set_cons_succ]
    refine wpAnyH_take (i := 12) (oi := ⟨some 28, .indexAddr _ _ _, _, _, _, _⟩) (v := ?v13) rfl (by kernel_rfl) (by kernel_rfl) (by kernel_rfl) (fun _ _ _ h => h) (Or.inl ⟨by rfl, ?hy13⟩) (by assumption) ?rest13
    case hy13 =>
      intro w hSw
      obtain ⟨hS1, hS2⟩ := hSw
      go_simp
      try with_reducible rfl
    try simp only [Act.put, List.setIfInBounds_toArray, List.set_cons_zero, List.set_cons_succ]
    refine wpAnyH_take (i := 13) (oi := ⟨some 29, .load _ _, _, _, _, _⟩) (v := ?v14) rfl (by kernel_rfl) (by kernel_rfl) (by kernel_rfl) (fun _ _ _ h => h) (Or.inl ⟨by rfl, ?hy14⟩) (by assumption) ?rest14
    case hy14 =>
      intro w hSw
      obtain ⟨hS1, hS2⟩ := hSw
      go_simp
      try with_reducible rfl
    try simp only [Act.put, List.setIfInBounds_toArray, List.set_cons_zero, List.set_cons_succ]
    refine wpAnyH_ready (rs := [14, 15]) (by kernel_rfl) (by simp) ?_
    refine AllReadyH.cons (o := ⟨some 9, .alloc _, _, _, _, _⟩) rfl (fun K hK => ?_) (AllReadyH.cons (o := ⟨some 11, .alloc _, _, _, _, _⟩) rfl (fun K hK => ?_) AllReadyH.nil)
    · refine step_pg_alloc rfl rfl ?_
      intro w3 x3 hB3 hsw3
      have B3 : Below w2.heap.size w2 w3 := bthen (Below.refl _ _).drew hB3
      have Hw3 := Lib.hid hsw3
      clear hB3 hsw3
      refine hK.out _ _ (SO.out _ (B3)) (fun hHeld => ?_)
      clear hK K
      try simp only [Act.put, List.setIfInBounds_toArray, List.set_cons_zero, List.set_cons_succ]
      refine wpAnyH_ready (rs := [15]) (by kernel_rfl) (by simp) ?_
      refine AllReadyH.cons (o := ⟨some 11, .alloc _, _, _, _, _⟩) rfl (fun K hK => ?_) AllReadyH.nil
      refine step_pg_alloc rfl rfl ?_
      intro w4 x4 hB4 hsw4
      have HB34 := Lib.hid hB4
      have B4 : Below w2.heap.size w2 w4 := bthen B3 hB4
      have Hw4 := Lib.hid hsw4
      clear hB4 hsw4
      refine hK.out _ _ (SO.out _ (B4)) (fun hHeld => ?_)
      clear hK K
      try simp only [Act.put, List.setIfInBounds_toArray, List.set_cons_zero, List.set_cons_succ]
      have x34 : Box w4 w2.heap.size 43 (bs pg0) := x3.below (w' := w4) HB34.out x3.lt
      have hgs : w2.heap.size ≤ w3.heap.size ∧ w2.heap.size ≠ w3.heap.size := by have := Hw3.out; simp only [World.size_drew] at this; omega
      refine wpAnyH_ready (rs := [16]) (by kernel_rfl) (by simp) ?_
      refine AllReadyH.cons (o := ⟨none, .store _ _ _, _, _, _, _⟩) rfl (fun K hK => ?_) AllReadyH.nil
      refine step_pg_store rfl _ _ rfl w2.heap.size p0 pg0 H0.out.1 rfl (by rfl) (by rfl) x34 ?_
      intro w5 x5 hg5 hs5
      have B5 : Below w2.heap.size w2 w5 := below_stored B4 hg5 B4.size (by omega)
      have x5h : Box w5 w3.heap.size 43 (bs pg0) := x4.grown hg5 (by omega)
      clear hs5
      refine hK.out _ _ (SO.out _ (B5)) (fun hHeld => ?_)
      clear hK K
      try simp only [Act.put]
      refine wpAnyH_take (i := 17) (oi := ⟨some 10, .assign _, _, _, _, _⟩) (v := ?v21) rfl (by kernel_rfl) (by kernel_rfl) (by kernel_rfl) (fun _ _ _ h => h) (Or.inl ⟨by rfl, ?hy21⟩) (by assumption) ?rest21
      case hy21 =>
        intro w hSw
        obtain ⟨hS1, hS2⟩ := hSw
        go_simp
        try with_reducible rfl
      try simp only [Act.put, List.setIfInBounds_toArray, List.set_cons_zero, List.set_cons_succ]
      refine wpAnyH_ready (rs := [18]) (by kernel_rfl) (by simp) ?_
      refine AllReadyH.cons (o := ⟨none, .store _ _ _, _, _, _, _⟩) rfl (fun K hK => ?_) AllReadyH.nil
      refine step_pg_store rfl _ _ rfl w3.heap.size pz pg0 HZ.out.1 rfl (by rfl) (by rfl) x5h ?_
      intro w6 x6 hg6 hs6
      have B6 : Below w2.heap.size w2 w6 := below_stored B5 hg6 B5.size (by omega)
      have F : Box w6 w2.heap.size 43 (bs p0) ∧ Box w6 w3.heap.size 43 (bs pz) ∧ Below w2.heap.size w2 w6 ∧ w2.heap.size ≤ w2.heap.size ∧ w2.heap.size ≤ w3.heap.size := ⟨x5.grown hg6 (by omega), x6, B6, by omega, by omega⟩
      clear hs6
      refine hK.out _ _ (SO.out _ (B6)) (fun hHeld => ?_)
      clear hK K
      try simp only [Act.put]
      refine wpAnyH_done (by kernel_rfl) ?_ _
      simp only [World.size_drew]
      generalize hgg : w2.heap.size = g9 at F ⊢
      generalize hhh : w3.heap.size = h9 at F ⊢
      exact ⟨g9, h9, F, rfl⟩
    · refine step_pg_alloc rfl rfl ?_
      intro w3 x3 hB3 hsw3
      have B3 : Below w2.heap.size w2 w3 := bthen (Below.refl _ _).drew hB3
      have Hw3 := Lib.hid hsw3
      clear hB3 hsw3
      refine hK.out _ _ (SO.out _ (B3)) (fun hHeld => ?_)
      clear hK K
      try simp only [Act.put, List.setIfInBounds_toArray, List.set_cons_zero, List.set_cons_succ]
      refine wpAnyH_ready (rs := [14]) (by kernel_rfl) (by simp) ?_
      refine AllReadyH.cons (o := ⟨some 9, .alloc _, _, _, _, _⟩) rfl (fun K hK => ?_) AllReadyH.nil
      refine step_pg_alloc rfl rfl ?_
      intro w4 x4 hB4 hsw4
      have HB34 := Lib.hid hB4
      have B4 : Below w2.heap.size w2 w4 := bthen B3 hB4
      have Hw4 := Lib.hid hsw4
      clear hB4 hsw4
      refine hK.out _ _ (SO.out _ (B4)) (fun hHeld => ?_)
      clear hK K
      try simp only [Act.put, List.setIfInBounds_toArray, List.set_cons_zero, List.set_cons_succ]
      have x34 : Box w4 w2.heap.size 43 (bs pg0) := x3.below (w' := w4) HB34.out x3.lt
      have hgs : w2.heap.size ≤ w3.heap.size ∧ w2.heap.size ≠ w3.heap.size := by have := Hw3.out; simp only [World.size_drew] at this; omega
      refine wpAnyH_ready (rs := [16]) (by kernel_rfl) (by simp) ?_
      refine AllReadyH.cons (o := ⟨none, .store _ _ _, _, _, _, _⟩) rfl (fun K hK => ?_) AllReadyH.nil
      refine step_pg_store rfl _ _ rfl w3.heap.size p0 pg0 H0.out.1 rfl (by rfl) (by rfl) x4 ?_
      intro w5 x5 hg5 hs5
      have B5 : Below w2.heap.size w2 w5 := below_stored B4 hg5 B4.size (by omega)
      have x5h : Box w5 w2.heap.size 43 (bs pg0) := x34.grown hg5 (by omega)
      clear hs5
      refine hK.out _ _ (SO.out _ (B5)) (fun hHeld => ?_)
      clear hK K
      try simp only [Act.put]
      refine wpAnyH_take (i := 17) (oi := ⟨some 10, .assign _, _, _, _, _⟩) (v := ?v22) rfl (by kernel_rfl) (by kernel_rfl) (by kernel_rfl) (fun _ _ _ h => h) (Or.inl ⟨by rfl, ?hy22⟩) (by assumption) ?rest22
      case hy22 =>
        intro w hSw
        obtain ⟨hS1, hS2⟩ := hSw
        go_simp
        try with_reducible rfl
      try simp only [Act.put, List.setIfInBounds_toArray, List.set_cons_zero, List.set_cons_succ]
      refine wpAnyH_ready (rs := [18]) (by kernel_rfl) (by simp) ?_
      refine AllReadyH.cons (o := ⟨none, .store _ _ _, _, _, _, _⟩) rfl (fun K hK => ?_) AllReadyH.nil
      refine step_pg_store rfl _ _ rfl w2.heap.size pz pg0 HZ.out.1 rfl (by rfl) (by rfl) x5h ?_
      intro w6 x6 hg6 hs6
      have B6 : Below w2.heap.size w2 w6 := below_stored B5 hg6 B5.size (by omega)
      have F : Box w6 w3.heap.size 43 (bs p0) ∧ Box w6 w2.heap.size 43 (bs pz) ∧ Below w2.heap.size w2 w6 ∧ w2.heap.size ≤ w3.heap.size ∧ w2.heap.size ≤ w2.heap.size := ⟨x5.grown hg6 (by omega), x6, B6, by omega, by omega⟩
      clear hs6
      refine hK.out _ _ (SO.out _ (B6)) (fun hHeld => ?_)
      clear hK K
      try simp only [Act.put]
      refine wpAnyH_done (by kernel_rfl) ?_ _
      simp only [World.size_drew]
      generalize hgg : w3.heap.size = g9 at F ⊢
      generalize hhh : w2.heap.size = h9 at F ⊢
      exact ⟨g9, h9, F, rfl⟩
  intro W g h F
  have hK1 : K - 1 = P := by have := HNK.out; omega
  rw [hK1]
  clear hK1
  have hPL : L.getD 0 [] = p0 ∧ L.getD (P + 1) [] = pz := by
    have h1 := H0.out.2.2
    have h2 := HZ.out.2.2
    rw [HNK.out.2.2] at h2
    rw [List.getD_eq_getElem?_getD, List.getD_eq_getElem?_getD, h1, h2]
    exact ⟨rfl, rfl⟩
  have S3 : Hid (WhSt w W br g h (gcl conv soft seq size opn) p0 pz) := Lib.hid ⟨HS.out.head.on F.2.2.1, HS.out.tail.head.on F.2.2.1, F.1, F.2.1, bthen HS.out.below F.2.2.1, HBr.out⟩
  clear F HS SO
  have HWh : Hid (whS n P low L = if (Mast.readS p0).2 = 0 ∧ headB (Mast.readS p0).1 (P : Int) = true ∧ (Mast.readS p0).1.gen % 2 = low then
      match tabR n (Mast.readS p0).1.gen ((L.drop 1).take P) with
      | none => none
      | some ys => if pz = Mast.layL (footOf (Mast.readS p0).1 ((L.drop 1).take P)) then some ((Mast.readS p0).1, ys) else none
    else none) := Lib.hid (by unfold whS; rw [hPL.1, hPL.2])
  have HRi := Lib.hid (Mast.read_in H0.out.2.1)
  have HPs : Hid (P64 ((L.drop 1).take P) ∧ Oct ((L.drop 1).take P) ∧ ((L.drop 1).take P).length = P) := Lib.hid ⟨fun p hp => HL.out.2.1 p (List.mem_of_mem_drop (List.mem_of_mem_take hp)), fun p hp => HL.out.2.2 p (List.mem_of_mem_drop (List.mem_of_mem_take hp)), by rw [List.length_take, List.length_drop, HL.out.1, HNK.out.2.1]; omega⟩
  have HRd := Lib.hid fun (w' : World) (hb : Below w.heap.size w w') => show Rd w' w'.heap.size (some ⟨b, m6, none⟩) (pgcs ((L.drop 1).take P)) from by
    have x := HX.out.on hb
    have r := ((x.rd x.lt).tail (m := 64)).front (k := P * 64)
    rw [Addr.add_mid, Nat.zero_add] at r
    rw [HM.out.1]
    rwa [pgcs_cut HL.out.2.1] at r
  clear hPL
  generalize (L.drop 1).take P = ps at *
  generalize hR : whS n P low L = R at *
  have HRq := Lib.hid hR
  clear hR
  have l3 := big_load0 Tryz.prog g 0 (bs p0) m6 (by rw [bs_length, H0.out.1, HM.out.1]) _ S3.out.gb.range0
  go_wp2_with fail
  refine (msread_any p0 W H0.out.1 H0.out.2.1).mono ?_
  rintro e w4 ⟨rfl, hb4⟩
  have S4 := Lib.hid (S3.out.on hb4)
  clear hb4 l3 S3
  generalize hm : (Mast.readS p0).1 = m at *
  generalize her : (Mast.readS p0).2 = er at *
  have HRe := Lib.hid (And.intro hm her)
  clear hm her
  have HNo : Hid (¬ (er = 0 ∧ headB m (P : Int) = true ∧ m.gen % 2 = low) → R = none) := Lib.hid fun h => by rw [HWh.out, if_neg h]
  by_cases he : er = 0
  rotate_left
  · have HE := Lib.hid (fun h : er = 0 ∧ headB m (P : Int) = true ∧ m.gen % 2 = low => he h.1)
    have e1 : (er != 0) = true := by simp [he]
    clear he
    go_wp2_with (first
      | ((with_reducible refine wpList_ms_alloc (o := ⟨some 12, .alloc _, _, _, _, _⟩) rfl rfl ?_); intro w5 x5 hB5 hs5; clear hs5)
      | ((with_reducible refine wpList_ms_store (o := ⟨none, .store _ (.tmp 12) _, _, _, _, _⟩) rfl _ _ rfl w4.heap.size m Mast.m0 rfl rfl x5 ?_); go_loud (intro w6 x6 hg6 _; have K6 := below_stored hB5 hg6 hB5.size (Nat.le_refl _); have S6 := Lib.hid (S4.out.var K6 x6); clear x5 hB5 x6 hg6 K6; generalize w4.heap.size = bv at *))
      | (with_reducible refine wpList_ms_zero (o := ⟨some 50, .build _ _, _, _, _, _⟩) rfl rfl ?_)
      | ((with_reducible refine wpList_ms_store (o := ⟨none, .store _ (.tmp 6) _, _, _, _, _⟩) rfl _ _ rfl br Mast.m0 Mast.m0 rfl rfl S6.out.rb ?_); go_loud (intro w9 hb9 hg9 _; have hldF := LA.out _ _ _ hb9; have HBl := Lib.hid (below_stored S6.out.bl hg9 S6.out.bl.size S6.out.le); clear hb9 hg9))
      | fail)
    generalize hR : mcs Mast.m0 = R9 at hldF ⊢
    exact bodyPost_ret (v := .tuple #[.agg R9.toArray, .pointer none, .bool false]) (by simp [results, Tryz.results40, go_sem, hszr, hldF]) rfl ⟨WhPost.no (HRq.out.trans (HNo.out HE.out)) (by rw [hR]), HBl.out⟩
  have e1 : (er != 0) = false := by simp [he]
  have HE0 := Lib.hid he
  clear he
  go_wp2_with (first
    | ((with_reducible refine wpList_ms_alloc (o := ⟨some 12, .alloc _, _, _, _, _⟩) rfl rfl ?_); intro w5 x5 hB5 hs5; clear hs5)
    | ((with_reducible refine wpList_ms_store (o := ⟨none, .store _ (.tmp 12) _, _, _, _, _⟩) rfl _ _ rfl w4.heap.size m Mast.m0 rfl rfl x5 ?_); go_loud (intro w6 x6 hg6 _; have K6 := below_stored hB5 hg6 hB5.size (Nat.le_refl _); have S6 := Lib.hid (S4.out.var K6 x6); clear x5 hB5 x6 hg6 K6; generalize w4.heap.size = bv at *; have hldm := LA.out _ _ _ S6.out.vb; have c0 : w6.cell? ⟨w.heap.size, 0, none⟩ = some (.int .i64 conv) := S6.out.ge.cell 0; have c1 : w6.cell? ⟨w.heap.size, 1, none⟩ = some (.int .i64 soft) := S6.out.ge.cell 1; have c2 : w6.cell? ⟨w.heap.size, 2, none⟩ = some (.int .i64 seq) := S6.out.ge.cell 2; have c3 : w6.cell? ⟨w.heap.size, 3, none⟩ = some (.int .i64 size) := S6.out.ge.cell 3; have c4 : w6.cell? ⟨w.heap.size, 4, none⟩ = some (.int .i64 opn) := S6.out.ge.cell 4))
    | fail)
  have HHd := Lib.hid (ishead_any conv soft seq size opn m w6 HSm.out)
  rw [HPg.out] at HHd
  refine HHd.out.mono ?_
  rintro e w7 ⟨rfl, hb7⟩
  have S7 := Lib.hid (S6.out.on hb7)
  clear hb7 hldm c0 c1 c2 c3 c4 S6 HHd
  generalize hhb : headB m (P : Int) = hb at *
  have HHb := Lib.hid hhb
  clear hhb
  cases hb with
  | false =>
    have HE : Hid (¬ (er = 0 ∧ false = true ∧ m.gen % 2 = low)) := Lib.hid (fun h => by cases h.2.1)
    go_wp2_with (first
      | (with_reducible refine wpList_ms_zero (o := ⟨some 50, .build _ _, _, _, _, _⟩) rfl rfl ?_)
      | ((with_reducible refine wpList_ms_store (o := ⟨none, .store _ (.tmp 6) _, _, _, _, _⟩) rfl _ _ rfl br Mast.m0 Mast.m0 rfl rfl S7.out.rb ?_); go_loud (intro w9 hb9 hg9 _; have hldF := LA.out _ _ _ hb9; have HBl := Lib.hid (below_stored S7.out.bl hg9 S7.out.bl.size S7.out.le); clear hb9 hg9))
      | fail)
    generalize hR : mcs Mast.m0 = R9 at hldF ⊢
    exact bodyPost_ret (v := .tuple #[.agg R9.toArray, .pointer none, .bool false]) (by simp [results, Tryz.results40, go_sem, hszr, hldF]) rfl ⟨WhPost.no (HRq.out.trans (HNo.out HE.out)) (by rw [hR]), HBl.out⟩
  | true =>
    have cg : w7.cell? ⟨bv, 1, none⟩ = some (.int .i64 m.gen) := S7.out.vb.cell 1
    have HOk : Hid (Mast.Ok m) := Lib.hid (of_decide_eq_true (head_iff.1 HHb.out).1)
    have hg0 : 0 ≤ m.gen := by have := HOk.out.1.1; omega
    by_cases hg : m.gen % 2 = low
    rotate_left
    · have HE : Hid (¬ (er = 0 ∧ true = true ∧ m.gen % 2 = low)) := Lib.hid (fun h => hg h.2.2)
      have e2 : (m.gen % 2 != low) = true := by simp [hg]
      clear hg
      go_wp2_with (first
        | (with_reducible refine wpList_ms_zero (o := ⟨some 50, .build _ _, _, _, _, _⟩) rfl rfl ?_)
        | ((with_reducible refine wpList_ms_store (o := ⟨none, .store _ (.tmp 6) _, _, _, _, _⟩) rfl _ _ rfl br Mast.m0 Mast.m0 rfl rfl S7.out.rb ?_); go_loud (intro w9 hb9 hg9 _; have hldF := LA.out _ _ _ hb9; have HBl := Lib.hid (below_stored S7.out.bl hg9 S7.out.bl.size S7.out.le); clear hb9 hg9))
        | fail)
      generalize hR : mcs Mast.m0 = R9 at hldF ⊢
      exact bodyPost_ret (v := .tuple #[.agg R9.toArray, .pointer none, .bool false]) (by simp [results, Tryz.results40, go_sem, hszr, hldF]) rfl ⟨WhPost.no (HRq.out.trans (HNo.out HE.out)) (by rw [hR]), HBl.out⟩
    have e2 : (m.gen % 2 != low) = false := by simp [hg]
    rw [if_pos ⟨HE0.out, rfl, hg⟩] at HWh
    clear hg HNo
    have c0 : w7.cell? ⟨w.heap.size, 0, none⟩ = some (.int .i64 conv) := S7.out.ge.cell 0
    have c1 : w7.cell? ⟨w.heap.size, 1, none⟩ = some (.int .i64 soft) := S7.out.ge.cell 1
    have c2 : w7.cell? ⟨w.heap.size, 2, none⟩ = some (.int .i64 seq) := S7.out.ge.cell 2
    have c3 : w7.cell? ⟨w.heap.size, 3, none⟩ = some (.int .i64 size) := S7.out.ge.cell 3
    have c4 : w7.cell? ⟨w.heap.size, 4, none⟩ = some (.int .i64 opn) := S7.out.ge.cell 4
    go_wp2_with fail
    refine (HTa.out m.gen P (N - 1) (some ⟨b, m6, none⟩) ps w7 HPs.out.2.2 (by omega) HPs.out.1 HPs.out.2.1 (HRd.out _ S7.out.bl)).mono ?_
    rintro e w8 ⟨hpost, hb8⟩
    have S8 := Lib.hid (S7.out.on hb8)
    have HBl8 := Lib.hid hb8
    have Hlt := Lib.hid S7.out.rb.lt
    have HSz7 := Lib.hid S7.out.bl.size
    clear hb8 S7 c0 c1 c2 c3 c4 cg
    cases hT : tabR n m.gen ps with
    | none =>
      rw [hT] at hpost HWh
      unfold TbPost at hpost
      subst hpost
      clear hT
      go_wp2_with fail
      refine wp_region_class (fun w' => Below w8.heap.size w8 w') (by kernel_rfl) (by kernel_rfl) (Below.refl _ _).drew ?_
      intro X hX f hf hg
      have Hf := Lib.hid hf
      have Hg := Lib.hid hg
      clear hf hg
      try simp only [Act.put, List.setIfInBounds_toArray, List.set_cons_succ, List.set_cons_zero]
      repeat (go_big_quiet_step (fail))
      refine wpQuiet_nil ?_
      rintro _ ⟨x, rfl⟩
      have S9 := Lib.hid (S8.out.on (Hf.out x))
      have K9 := Lib.hid (Hf.out x)
      clear HBl8 Hf Hg hX
      generalize f x = w9x at S9 K9 ⊢
      go_wp2_with (first
        | (with_reducible refine wpList_ms_zero (o := ⟨some 69, .build _ _, _, _, _, _⟩) rfl rfl ?_)
        | ((with_reducible refine wpList_ms_store (o := ⟨none, .store _ (.tmp 6) _, _, _, _, _⟩) rfl _ _ rfl br Mast.m0 Mast.m0 rfl rfl S9.out.rb ?_); go_loud (intro w9 hb9 hg9 _; have hldF := LA.out _ _ _ hb9; have HBl := Lib.hid (below_stored S9.out.bl hg9 S9.out.bl.size S9.out.le); clear hb9 hg9))
        | fail)
      generalize hR : mcs Mast.m0 = R9 at hldF ⊢
      exact bodyPost_ret (v := .tuple #[.agg R9.toArray, .pointer none, .bool false]) (by simp [results, Tryz.results40, go_sem, hszr, hldF]) rfl ⟨WhPost.no (HRq.out.trans HWh.out) (by rw [hR]), HBl.out⟩
    | some ys =>
      rw [hT] at hpost HWh
      unfold TbPost at hpost
      obtain ⟨dt, gt, ht, rfl, htb, q1, q2, q3⟩ := hpost
      have HTb := Lib.hid (And.intro htb (And.intro q1 (And.intro q2 q3)))
      clear hT htb q1 q2 q3
      have HFk := Lib.hid (foot_ok (ls := ps) HOk.out HPs.out.2.1)
      have HFo := Lib.hid fun w' (hb : Below w8.heap.size w8 w') => ckfoot_any m (some ⟨b, m6, none⟩) P (N - 1) ps w' HPs.out.2.2 HPs.out.1 HPs.out.2.1 (by omega) (HRd.out _ (bthen S8.out.bl hb))
      generalize footOf m ps = ft at *
      have HLy := Lib.hid fun w' => mslay_any ft w' HFk.out.2
      rw [layS_ok HFk.out.1] at HLy
      have hq := fun w' => pg_equal w' pz (Mast.layL ft) HZ.out.1 (Mast.layL_length ft)
      have hgd := pg_guard
      have HW2 : Hid ((pz == Mast.layL ft) = true → R = some (m, ys)) := Lib.hid fun h => by rw [HWh.out]; exact if_pos (eq_of_beq h)
      have HW3 : Hid ((pz == Mast.layL ft) = false → R = none) := Lib.hid fun h => by rw [HWh.out]; exact if_neg (ne_of_beq_false h)
      clear HWh
      generalize (pz == Mast.layL ft) = q at *
      generalize Mast.layL ft = lft at *
      go_wp2_with fail
      refine wp_region_class (fun w' => Below w8.heap.size w8 w') (by kernel_rfl) (by kernel_rfl) (Below.refl _ _).drew ?_
      intro X hX f hf hg
      have lz := fun x => big_load0 Tryz.prog h 0 (bs pz) m6 (by rw [bs_length, HZ.out.1, HM.out.1]) (f x) (S8.out.on (hf x)).hb.range0
      have lm := fun x => LA.out _ _ _ (S8.out.on (hf x)).vb
      have Hf := Lib.hid hf
      have Hg := Lib.hid hg
      clear hf hg
      try simp only [Act.put, List.setIfInBounds_toArray, List.set_cons_succ, List.set_cons_zero]
      repeat (go_big_quiet_step (first | (go_at_call 52; with_reducible exact calls_class (HFo.out _ (Hf.out _)) (fun _ hb => Hg.out _ (bthen (Hf.out _) hb))) | (go_at_call 51; with_reducible exact calls_class (HLy.out _) (fun _ hb => Hg.out _ (bthen (Hf.out _) hb)))))
      refine wpQuiet_nil ?_
      rintro _ ⟨x, rfl⟩
      have S9 := Lib.hid (S8.out.on (Hf.out x))
      have K9 := Lib.hid (Hf.out x)
      clear lz lm hq hgd HFo HLy Hf Hg hX
      generalize f x = w9x at S9 K9 ⊢
      cases q with
      | false =>
        go_wp2_with (first
          | (with_reducible refine wpList_ms_zero (o := ⟨some 69, .build _ _, _, _, _, _⟩) rfl rfl ?_)
          | ((with_reducible refine wpList_ms_store (o := ⟨none, .store _ (.tmp 6) _, _, _, _, _⟩) rfl _ _ rfl br Mast.m0 Mast.m0 rfl rfl S9.out.rb ?_); go_loud (intro w9 hb9 hg9 _; have hldF := LA.out _ _ _ hb9; have HBl := Lib.hid (below_stored S9.out.bl hg9 S9.out.bl.size S9.out.le); clear hb9 hg9))
          | fail)
        generalize hR : mcs Mast.m0 = R9 at hldF ⊢
        exact bodyPost_ret (v := .tuple #[.agg R9.toArray, .pointer none, .bool false]) (by simp [results, Tryz.results40, go_sem, hszr, hldF]) rfl ⟨WhPost.no (HRq.out.trans (HW3.out (by first | trivial | rfl))) (by rw [hR]), HBl.out⟩
      | true =>
        have hldm := LA.out _ _ _ S9.out.vb
        go_wp2_with (first
          | ((with_reducible refine wpList_ms_store (o := ⟨none, .store _ (.tmp 6) _, _, _, _, _⟩) rfl _ _ rfl br m Mast.m0 rfl rfl S9.out.rb ?_); go_loud (intro w9 hb9 hg9 _; have hldF := LA.out _ _ _ hb9; have HBl := Lib.hid (below_stored S9.out.bl hg9 S9.out.bl.size S9.out.le); have HT9 := Lib.hid ((HTb.out.1.on K9.out).fr (Fr.of_grown (T := fun k => k = br) hg9 fun k hk => by injection hk with hk; exact hk.symm) (by have := HTb.out.2.1; have := Hlt.out; omega) (by have := HTb.out.2.2.1; have := Hlt.out; omega) (by have := HTb.out.2.2.2; have := Hlt.out; omega)); clear hb9 hg9))
          | fail)
        generalize hR : mcs m = R9 at hldF ⊢
        exact bodyPost_ret (v := .tuple #[.agg R9.toArray, tp dt, .bool true]) (by simp [results, Tryz.results40, go_sem, hszr, hldF]) rfl ⟨WhPost.yes (HRq.out.trans (HW2.out (by first | trivial | rfl))) (by rw [hR]) HT9.out (Nat.le_trans HSz7.out HTb.out.2.1) (Nat.le_trans HSz7.out HTb.out.2.2.1) (Nat.le_trans HSz7.out HTb.out.2.2.2), HBl.out⟩
end Go.Proofs.YtgnpohkippegpaaGreat

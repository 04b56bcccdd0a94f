/-
  Layer 12's laws: 'awake' answers true.
-/
import Derived.Test.YtbhcemipjfdemaaLaH
namespace Go.Proofs.Ytbhcemipjfdemaa
open Go.RowKit Geom Leaf Pol
set_option linter.unusedVariables false

namespace Pol
def z6 : PS := ⟨[0, 0, 0, 0, 0, 0], 0, 0, 0⟩
def q6 : PS := ⟨[2, 1, 0, 0, 0, 0], 2, 0, 3⟩
theorem aw_plan : planX 2 8 [0, 2, 0] ⟨[0, 0, 0, 0, 0, 0], 0, 0, 0⟩ = some ([(2, 0), (3, 0), (2, 1)], q6) := by rfl
theorem aw_fits : fitsB 2 8 z6 8 1 = true := by rfl
theorem aw_zones : need 8 (rm 2 8 z6 0) 9 = 2 := by rfl
theorem aw_keep : keepN 2 8 z6 = 2 := by rfl
theorem aw_keep2 : keepN 2 8 q6 = 1 := by rfl
set_option maxRecDepth 100000 in
theorem aw_moves : movesB 2 8 z6 100 = false := by rfl
theorem aw_rt : Rt 2 6 8 z6 := right_iff.1 (by decide)
theorem aw_rt2 : Rt 2 6 8 q6 := right_iff.1 (by decide)
end Pol
section
variable (w : World) (A : Option Addr) (c : Nat)
theorem aw_cplan (As : Option Addr) (cs : Nat) (h : Rd w w.heap.size A (is [0, 0, 0, 0, 0, 0])) (hs : Rd w w.heap.size As (is [0, 2, 0])) :
    Calls Try.prog 13 #[pgv 2 8 6 8 3, ppv A 6 c 0 0 0, .slice As 3 cs] w fun e w' => ∃ A5 c5 g c', e = .returned (.tuple #[.slice A5 3 c5, ppv (some ⟨g, 0, none⟩) 6 c' 2 0 3, .bool true]) ∧ w'.ownsRow w.heap.size 48 2 (.slice A5 3 c5) 3 (ccs [(2, 0), (3, 0), (2, 1)]) ∧ w'.ownsRow w.heap.size 3 1 (.slice (some ⟨g, 0, none⟩) 6 c') 6 (is [2, 1, 0, 0, 0, 0]) ∧ Below w.heap.size w w' := by
  have h := lplan_any 2 8 6 8 3 A 6 c [0, 0, 0, 0, 0, 0] 0 0 0 As 3 cs [0, 2, 0] w (by omega) rfl awP.some aw_rt h (by decide) rfl (by omega) hs
  rw [aw_plan] at h
  refine h.mono ?_
  rintro e w' (⟨h, _⟩ | ⟨l, q, h, V, g, c', rfl, h1, h2, h3⟩)
  · cases h
  · cases h
    obtain ⟨A5, c5, rfl⟩ := own_slice h1
    exact ⟨A5, c5, g, c', rfl, h1, h2, h3⟩
theorem aw_cfits (h : Rd w w.heap.size A (is [0, 0, 0, 0, 0, 0])) : Calls Try.prog 21 #[pgv 2 8 6 8 3, ppv A 6 c 0 0 0, .int .i64 8, .int .i64 1] w fun e w' => e = .returned (.bool true) ∧ Below w.heap.size w w' := by
  have h := lfits_any 2 8 6 8 3 A 6 c z6 8 1 w (by omega) rfl awP.some aw_rt (by omega) (by omega) h
  rw [aw_fits] at h
  exact h
theorem aw_cmoves (h : Rd w w.heap.size A (is [0, 0, 0, 0, 0, 0])) : Calls Try.prog 23 #[pgv 2 8 6 8 3, ppv A 6 c 0 0 0, .int .i64 100] w fun e w' => e = .returned (.bool false) ∧ Below w.heap.size w w' := by
  have h := lmoves_any 2 8 6 8 3 A 6 c z6 100 w (by omega) rfl awP.some aw_rt (by omega) h
  rw [aw_moves] at h
  exact h
theorem aw_czones (h : Rd w w.heap.size A (is [0, 0, 0, 0, 0, 0])) : Calls Try.prog 17 #[pgv 2 8 6 8 3, ppv A 6 c 0 0 0, .int .i64 0, .int .i64 9] w fun e w' => e = .returned (.int .i64 2) ∧ Below w.heap.size w w' :=
  lzones_any 2 8 6 8 3 A 6 c z6 0 9 w (by omega) rfl awP.some aw_rt (by omega) (by omega) h
theorem aw_ckeep (h : Rd w w.heap.size A (is [0, 0, 0, 0, 0, 0])) : Calls Try.prog 19 #[pgv 2 8 6 8 3, ppv A 6 c 0 0 0] w fun e w' => e = .returned (.int .i64 2) ∧ Below w.heap.size w w' := by
  have h := lkeep_any 2 8 6 8 3 A 6 c z6 w (by omega) rfl awP.some aw_rt h
  rw [aw_keep] at h
  exact h
theorem aw_ckeep2 (h : Rd w w.heap.size A (is [2, 1, 0, 0, 0, 0])) : Calls Try.prog 19 #[pgv 2 8 6 8 3, ppv A 6 c 2 0 3] w fun e w' => e = .returned (.int .i64 1) ∧ Below w.heap.size w w' := by
  have h := lkeep_any 2 8 6 8 3 A 6 c q6 w (by omega) rfl awP.some aw_rt2 h
  rw [aw_keep2] at h
  exact h
/-- what stands in memory while awake goes on: the measure, the pool, the pool behind the plan -/
structure AwB (w W : World) (bp g bq g5 c5 : Nat) : Prop where
  one : One w W 2 8 6 8 3
  xp : Box W bp 27 (plcs (some ⟨g, 0, none⟩) 6 6 0 0 0)
  op : Rd W W.heap.size (some ⟨g, 0, none⟩) (is [0, 0, 0, 0, 0, 0])
  xq : Box W bq 27 (plcs (some ⟨g5, 0, none⟩) 6 c5 2 0 3)
  oq : Rd W W.heap.size (some ⟨g5, 0, none⟩) (is [2, 1, 0, 0, 0, 0])
theorem AwB.on {w W W2 : World} {bp g bq g5 c5 : Nat} (h : AwB w W bp g bq g5 c5) (hb : Below W.heap.size W W2) : AwB w W2 bp g bq g5 c5 :=
  ⟨One.below h.one hb, h.xp.on hb, (h.op.below hb).more hb.size, h.xq.on hb, (h.oq.below hb).more hb.size⟩
set_option maxRecDepth 100000 in
set_option maxHeartbeats 8000000 in
theorem awake12_any : Calls Try.prog 9 #[] w fun e w' => e = .returned (.bool true) ∧ Below w.heap.size w w' := by
  have hgb := One.new w 2 8 6 8 3 23
  have hgs : w.heap.size < (w.alloc (.cells #[.int .i64 2, .int .i64 8, .int .i64 6, .int .i64 8, .int .i64 3] 23)).heap.size := by simp
  have qE := pat_eql
  have qG := pat_guard
  go_enter Try.func9, Try.ntmps9
  go_wp2_with (first
    | ((with_reducible refine wpList_make_z _ (o := ⟨some _, .makeSlice _ _ _, _, _, _, _⟩) rfl _ _ 24 rfl 3 _ 8 pelemI rfl .i64 .i64 6 6 6 rfl rfl rfl rfl (by simp only [maxLen]; omega) (by omega) ?_); intro w2 hown2 hb2; have H2 := Lib.hid (One.below hgb hb2); have O2 := Lib.hid hown2; have G2 := Lib.hid hgs; clear hown2 hb2 hgb hgs; generalize (World.alloc w _).heap.size = g at O2 G2 ⊢)
    | ((with_reducible refine wpList_pool_alloc (o := ⟨_, .alloc _, _, _, _, _⟩) rfl rfl ?_); intro u2 xb hu2 hs2; clear hs2)
    | ((with_reducible refine wpList_pool_store (o := ⟨none, .store _ _ _, _, _, _, _⟩) rfl _ _ rfl _ (some ⟨g, 0, none⟩) none 6 0 6 0 0 0 0 0 0 0 rfl rfl xb ?_); intro w3 x3 hg3; have hv1 := hu2.grown hg3 hu2.size (fun k hk => by injection hk with hk; omega); have H3 := Lib.hid (One.below H2.out hv1); have O3 := Lib.hid (own_below O2.out hv1); have X3 := Lib.hid x3; clear xb hu2 hg3 hv1 x3 H2 O2; generalize w2.heap.size = bp at X3 ⊢; obtain ⟨c0, c1, c2, c3, c4, cl⟩ := id H3.out.1; obtain ⟨b0, b1, b2, b3, bl⟩ := X3.out.pool)
    | fail)
  have O3' : w3.ownsRow g 3 1 (.slice (some ⟨g, 0, none⟩) 6 6) 6 (is [0, 0, 0, 0, 0, 0]) := O3.out
  refine (aw_cplan _ (some ⟨g, 0, none⟩) 6 (some ⟨w3.heap.size, 0, none⟩) 3 (Rd.own (O3'.alloc _)) (rd_new w3 (is [0, 2, 0]) 3 (0, 0))).mono ?_
  rintro e w5 ⟨A5, c5, g5, p5, rfl, hv, hown, hb⟩
  obtain ⟨gv, rfl, _, _⟩ := own_at hv (by omega)
  have hb5 : Below w3.heap.size w3 w5 := bthen ((Below.refl _ _).alloc (Nat.le_refl _) _) hb
  have H5 := Lib.hid (One.below H3.out hb5)
  have X5 := Lib.hid (X3.out.on hb5)
  have O5 := Lib.hid (own_below O3' hb5)
  have V5 := Lib.hid hv
  have Q5 := Lib.hid hown
  clear hv hown hb hb5 H3 X3 O3 O3' c0 c1 c2 c3 c4 cl b0 b1 b2 b3 bl
  go_wp2_with (first
    | ((with_reducible refine wpList_pool_alloc (o := ⟨_, .alloc _, _, _, _, _⟩) rfl rfl ?_); intro u2 xb hu2 hs2; clear hs2)
    | ((with_reducible refine wpList_pool_store (o := ⟨none, .store _ _ _, _, _, _, _⟩) rfl _ _ rfl _ (some ⟨g5, 0, none⟩) none 6 0 p5 0 2 0 3 0 0 0 rfl rfl xb ?_); intro u4 xd hu4; have hv1 := hu2.grown hu4 hu2.size (fun k hk => by injection hk with hk; omega); have T0 := Lib.hid (AwB.mk (One.below H5.out hv1) (X5.out.on hv1) (Rd.own (own_below O5.out hv1)) xd (Rd.own (own_below Q5.out hv1))); have V6 := Lib.hid (own_below V5.out hv1); clear xb hu2 hu4 hv1 H5 X5 O5 Q5 V5; generalize w5.heap.size = bq at T0 ⊢; have d0 : u4.cell? ⟨gv, 4, none⟩ = some (.int .i64 2) := V6.out.cellAt 4 (by omega); have d1 : u4.cell? ⟨gv, 5, none⟩ = some (.int .i64 1) := V6.out.cellAt 5 (by omega); obtain ⟨c0, c1, c2, c3, c4, cl⟩ := id T0.out.one.1; obtain ⟨b0, b1, b2, b3, bl⟩ := T0.out.xp.pool)
    | fail)
  refine (aw_cfits _ _ _ T0.out.op).mono ?_
  rintro e v1 ⟨rfl, hb⟩
  have T1 := Lib.hid (T0.out.on hb)
  clear hb T0 c0 c1 c2 c3 c4 cl b0 b1 b2 b3 bl d0 d1 V6
  obtain ⟨c0, c1, c2, c3, c4, cl⟩ := id T1.out.one.1
  obtain ⟨b0, b1, b2, b3, bl⟩ := T1.out.xp.pool
  obtain ⟨e0, e1, e2, e3, el⟩ := T1.out.xq.pool
  go_wp2_with fail
  refine (aw_czones _ _ _ T1.out.op).mono ?_
  rintro e v2 ⟨rfl, hb⟩
  have T2 := Lib.hid (T1.out.on hb)
  clear hb T1 c0 c1 c2 c3 c4 cl b0 b1 b2 b3 bl e0 e1 e2 e3 el
  obtain ⟨c0, c1, c2, c3, c4, cl⟩ := id T2.out.one.1
  obtain ⟨b0, b1, b2, b3, bl⟩ := T2.out.xp.pool
  obtain ⟨e0, e1, e2, e3, el⟩ := T2.out.xq.pool
  go_wp2_with fail
  refine (aw_ckeep _ _ _ T2.out.op).mono ?_
  rintro e v3 ⟨rfl, hb⟩
  have T3 := Lib.hid (T2.out.on hb)
  clear hb T2 c0 c1 c2 c3 c4 cl b0 b1 b2 b3 bl e0 e1 e2 e3 el
  obtain ⟨c0, c1, c2, c3, c4, cl⟩ := id T3.out.one.1
  obtain ⟨b0, b1, b2, b3, bl⟩ := T3.out.xp.pool
  obtain ⟨e0, e1, e2, e3, el⟩ := T3.out.xq.pool
  go_wp2_with fail
  refine (aw_ckeep2 _ _ _ T3.out.oq).mono ?_
  rintro e v4 ⟨rfl, hb⟩
  have T4 := Lib.hid (T3.out.on hb)
  clear hb T3 c0 c1 c2 c3 c4 cl b0 b1 b2 b3 bl e0 e1 e2 e3 el
  obtain ⟨c0, c1, c2, c3, c4, cl⟩ := id T4.out.one.1
  obtain ⟨b0, b1, b2, b3, bl⟩ := T4.out.xp.pool
  obtain ⟨e0, e1, e2, e3, el⟩ := T4.out.xq.pool
  go_wp2_with fail
  refine (aw_cmoves _ _ _ T4.out.op).mono ?_
  rintro e v5 ⟨rfl, hb⟩
  have T5 := Lib.hid (T4.out.on hb)
  clear hb T4 c0 c1 c2 c3 c4 cl b0 b1 b2 b3 bl e0 e1 e2 e3 el
  go_wp2
  go_ret
  exact ⟨rfl, T5.out.one.2⟩
end
end Go.Proofs.Ytbhcemipjfdemaa

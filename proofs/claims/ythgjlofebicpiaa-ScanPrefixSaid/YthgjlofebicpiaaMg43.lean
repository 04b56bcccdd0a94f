/-
  ScV ScW
-/
import Derived.Test.YthgjlofebicpiaaMg40
import Derived.Test.YthgjlofebicpiaaMg41
import Derived.Test.YthgjlofebicpiaaMg42
/-
  'awake' of layer 14 answers true.
-/
namespace Go.Proofs.Ythgjlofebicpiaa
open Go.RowKit Geom Zone Dev Word Rec Scan
set_option linter.unusedVariables false

theorem step_slice_four {P : Program} (w : World) {ops : Array Oper} {o : Oper} {a : Act} {K : Act → World → Prop} {Q : Exit → Act → World → Prop} {E : Prop} (hgd : o.guard = none) (x0 x1 x2 x3 : Operand) (t : TypeId) (ho : o.op = .buildSlice t 4 #[(0, x0), (1, x1), (2, x2), (3, x3)])
    (e : TypeId) (z : Value) (size bytes : Nat) (he : Elem P t e z size bytes) (hs : size ≤ 1000) (a0 a1 a2 a3 : List Value) (hl : ∀ us ∈ [a0, a1, a2, a3], us.length = size) (h0 : a.eval x0 = .agg a0.toArray) (h1 : a.eval x1 = .agg a1.toArray) (h2 : a.eval x2 = .agg a2.toArray) (h3 : a.eval x3 = .agg a3.toArray)
    (h : K (a.put o.dst (.slice (some ⟨w.heap.size, 0, none⟩) 4 4)) (w.alloc (.cells (a0 ++ (a1 ++ (a2 ++ a3))).toArray e))) :
    if Region.wanted o (yielded ops a.tmps) = true then Oper.wp P o a w K Q else E := by
  have hw : Region.wanted o (yielded ops a.tmps) = true := by simp [Region.wanted, hgd]
  rw [if_pos hw]
  have hr := run_buildSlice_row (P := P) w he hs [a0, a1, a2, a3] hl (by simp) (by simp)
  have e4 : [a0, a1, a2, a3].flatten = a0 ++ (a1 ++ (a2 ++ a3)) := by simp
  rw [e4] at hr
  have hr : (Instr.buildSlice t 4 #[(0, Value.agg a0.toArray), (1, Value.agg a1.toArray), (2, Value.agg a2.toArray), (3, Value.agg a3.toArray)]).run P w = .ok (.slice (some ⟨w.heap.size, 0, none⟩) 4 4) (w.alloc (.cells (a0 ++ (a1 ++ (a2 ++ a3))).toArray e)) := hr
  unfold Oper.wp
  simp only [execOp, ho, Array.map]
  simp [h0, h1, h2, h3, hr, Result.andThen]
  exact h
theorem exec_build2 {P : Program} {w : World} {ρ : Operand → Value} {o : Oper} {t : TypeId} {x0 x1 : Operand} {v0 v1 v : Value} (ho : o.op = .build t #[(0, x0), (1, x1)]) (h0 : ρ x0 = v0) (h1 : ρ x1 = v1) (hb : (Instr.build t #[(0, v0), (1, v1)]).run P w = .ok v w) : (execOp ρ o).run P w = .ok (.value v) w := by
  simp [execOp, ho, h0, h1, hb, Result.andThen]
namespace Scan
def awL : List St := [⟨1, putR 2 5, false⟩, ⟨0, putR 2 6, false⟩, ⟨1, putR 2 8, false⟩, ⟨1, putR 1 9, false⟩]
def awD : Dv := layD (newD 2 8 6 8 3 8) awL
def awT : List Fo := [⟨9, putR 2 5⟩, ⟨1, putR 2 6⟩, ⟨10, putR 2 8⟩]
theorem i64_of (x : Int) (h : decide (-9223372036854775808 ≤ x ∧ x ≤ 9223372036854775807) = true) : I64 x := by unfold I64; exact of_decide_eq_true h
theorem awL_in : ∀ x ∈ awL, StIn x := by
  have h : ∀ z e s : Int, (0 ≤ z ∧ z < 256) → I64 e → I64 s → StIn ⟨z, putR e s, false⟩ := fun z e s hz he hs => ⟨hz.1, hz.2, ⟨i64_of 2 rfl, he, hs, i64_of 1 rfl, i64_of 0 rfl⟩, putR_in _ _⟩
  intro x hx
  simp only [awL, List.mem_cons, List.not_mem_nil, or_false] at hx
  rcases hx with rfl | rfl | rfl | rfl
  · exact h _ _ _ (by decide) (i64_of 2 rfl) (i64_of 5 rfl)
  · exact h _ _ _ (by decide) (i64_of 2 rfl) (i64_of 6 rfl)
  · exact h _ _ _ (by decide) (i64_of 2 rfl) (i64_of 8 rfl)
  · exact h _ _ _ (by decide) (i64_of 1 rfl) (i64_of 9 rfl)
theorem awT_in : ∀ f ∈ awT, FIn f := by
  intro f hf
  simp only [awT, List.mem_cons, List.not_mem_nil, or_false] at hf
  rcases hf with rfl | rfl | rfl <;> exact putR_in _ _
theorem aw_page {z e s : Int} (he : Rec.num e) (hs : Rec.num s) : readS (pageOf ⟨z, putR e s, false⟩) = (putR e s, 0) := by
  have h : pageOf ⟨z, putR e s, false⟩ = layL (putR e s) := by
    unfold pageOf
    rw [if_neg (by simp)]
    exact layA_ok (putR_ok he hs)
  rw [h]
  exact read_lay (putR_ok he hs) (putR_in _ _)
theorem aw_cache : awD.cache = [(3, 0, pageOf ⟨1, putR 2 5, false⟩), (2, 0, pageOf ⟨0, putR 2 6, false⟩), (3, 1, pageOf ⟨1, putR 2 8, false⟩), (3, 2, pageOf ⟨1, putR 1 9, false⟩)] := by
  kernel_rfl
theorem aw_once : awD.cache.Pairwise fun a b => a.pl ≠ b.pl := by
  rw [aw_cache]
  generalize pageOf ⟨1, putR 2 5, false⟩ = p1
  generalize pageOf ⟨0, putR 2 6, false⟩ = p2
  generalize pageOf ⟨1, putR 2 8, false⟩ = p3
  generalize pageOf ⟨1, putR 1 9, false⟩ = p4
  simp [Wr.pl]
theorem aw_at {c : Wr} (h : c ∈ awD.cache) : pageD awD (c.1, c.2.1) = c.2.2 := page_of aw_once h
theorem aw_num (z o : Int) : Geom.num awD.conv awD.seq awD.size z o = Geom.num 2 6 8 z o := rfl
theorem aw_pls : plsTo awD 8 = [(2, 0), (3, 0), (3, 1), (3, 2)] := by
  decide +kernel
theorem aw_fnd {z o y e s : Int} (hc : (z, o, pageOf ⟨y, putR e s, false⟩) ∈ awD.cache) (he : Rec.num e) (hs : Rec.num s) : fnd awD 2 4 (z, o) = if e = 2 ∧ 4 < s then some ⟨Geom.num 2 6 8 z o, putR e s⟩ else none := by
  have hp : pageD awD (z, o) = pageOf ⟨y, putR e s, false⟩ := aw_at hc
  unfold fnd
  rw [hp, aw_page he hs]
  simp only [true_and]
  rfl
theorem aw_found : foundD awD 2 4 = [⟨1, putR 2 6⟩, ⟨9, putR 2 5⟩, ⟨10, putR 2 8⟩] := by
  have h1 : fnd awD 2 4 (2, 0) = some ⟨1, putR 2 6⟩ := (aw_fnd (y := 0) (e := 2) (s := 6) (by rw [aw_cache]; simp) ⟨by decide, by decide⟩ ⟨by decide, by decide⟩).trans rfl
  have h2 : fnd awD 2 4 (3, 0) = some ⟨9, putR 2 5⟩ := (aw_fnd (y := 1) (e := 2) (s := 5) (by rw [aw_cache]; simp) ⟨by decide, by decide⟩ ⟨by decide, by decide⟩).trans rfl
  have h3 : fnd awD 2 4 (3, 1) = some ⟨10, putR 2 8⟩ := (aw_fnd (y := 1) (e := 2) (s := 8) (by rw [aw_cache]; simp) ⟨by decide, by decide⟩ ⟨by decide, by decide⟩).trans rfl
  have h4 : fnd awD 2 4 (3, 2) = none := (aw_fnd (y := 1) (e := 1) (s := 9) (by rw [aw_cache]; simp) ⟨by decide, by decide⟩ ⟨by decide, by decide⟩).trans rfl
  show (plsTo awD 8).filterMap (fnd awD 2 4) = _
  rw [aw_pls]
  simp [h1, h2, h3, h4]
theorem aw_told : Tells (foundD awD 2 4) awT := by
  rw [aw_found]
  refine ⟨List.Perm.swap _ _ _, ?_⟩
  unfold awT
  simp [Lt]
end Scan
theorem awLn : ∀ us ∈ [stcs ⟨1, putR 2 5, false⟩, stcs ⟨0, putR 2 6, false⟩, stcs ⟨1, putR 2 8, false⟩, stcs ⟨1, putR 1 9, false⟩], us.length = 39 := by
  intro us hu
  simp only [List.mem_cons, List.not_mem_nil, or_false] at hu
  rcases hu with rfl | rfl | rfl | rfl <;> exact stcs_length (putR_in _ _)
set_option maxRecDepth 100000 in
set_option maxHeartbeats 4000000 in
theorem awake_any (w : World) : Calls Try.prog 7 #[] w fun e w' => e = .returned (.bool true) ∧ Below w.heap.size w w' := by
  have HG : Hid (Geom.Ok 2 8 6 8 3) := Lib.hid (by decide)
  have HLn := Lib.hid awLn
  go_enter Try.func7, Try.ntmps7
  go_wp2_with fail
  have hb0 : Below w.heap.size w (w.alloc (.cells #[.int .i64 2, .int .i64 8, .int .i64 6, .int .i64 8, .int .i64 3] 23)) := (Below.refl _ _).alloc (Nat.le_refl _) _
  have hx0 : Box (w.alloc (.cells #[.int .i64 2, .int .i64 8, .int .i64 6, .int .i64 8, .int .i64 3] 23)) w.heap.size 23 (gcS 2 8 6 8 3) := Box.new w _ _
  generalize World.alloc _ _ = w1 at hb0 hx0 ⊢
  have HX := Lib.hid hx0
  have HB := Lib.hid hb0
  have SO := Lib.hid fun w' (hb : Below w1.heap.size w1 w') => (⟨(hx0.on hb).cell 0, (hx0.on hb).cell 1, (hx0.on hb).cell 2, (hx0.on hb).cell 3, (hx0.on hb).cell 4⟩ : w'.cell? ⟨w.heap.size, 0, none⟩ = some (.int .i64 2) ∧ w'.cell? ⟨w.heap.size, 1, none⟩ = some (.int .i64 8) ∧ w'.cell? ⟨w.heap.size, 2, none⟩ = some (.int .i64 6) ∧ w'.cell? ⟨w.heap.size, 3, none⟩ = some (.int .i64 8) ∧ w'.cell? ⟨w.heap.size, 4, none⟩ = some (.int .i64 3))
  clear hb0 hx0
  refine wp_region_held_drew (S := (fun w' => w'.cell? ⟨w.heap.size, 0, none⟩ = some (.int .i64 2) ∧ w'.cell? ⟨w.heap.size, 1, none⟩ = some (.int .i64 8) ∧ w'.cell? ⟨w.heap.size, 2, none⟩ = some (.int .i64 6) ∧ w'.cell? ⟨w.heap.size, 3, none⟩ = some (.int .i64 8) ∧ w'.cell? ⟨w.heap.size, 4, none⟩ = some (.int .i64 3))) (by kernel_rfl) (SO.out _ (Below.refl _ _).drew) (fun hHeld => ?_)
  refine wpAnyH_take (i := 0) (oi := ⟨some 6, .load _ _, _, _, _, _⟩) (v := ?v158) rfl (by kernel_rfl) (by kernel_rfl) (by kernel_rfl) (fun _ _ _ h => h) (Or.inl ⟨by rfl, ?hy158⟩) (by assumption) ?rest158
  case hy158 =>
    intro w hSw
    obtain ⟨hS0, hS1, hS2, hS3, hS4⟩ := hSw
    go_simp
    try with_reducible rfl
  try simp only [Act.put, List.setIfInBounds_toArray, List.set_cons_zero, List.set_cons_succ]
  refine wpAnyH_ready (rs := [1]) (by kernel_rfl) (by simp) ?_
  refine AllReadyH.cons (o := ⟨some 7, .call _, _, _, _, _⟩) rfl (fun K hK => ?_) AllReadyH.nil
  go_simp
  refine (scput_any 2 5 _).mono ?_
  rintro e y1 ⟨rfl, b1⟩
  have B1 : Below w1.heap.size w1 y1 := bthen (Below.refl _ _).drew b1
  clear b1
  go_wp2_with fail
  clear hHeld
  refine hK.out _ _ (SO.out _ B1) (fun hHeld => ?_)
  clear hK K
  try simp only [Act.put, List.setIfInBounds_toArray, List.set_cons_zero, List.set_cons_succ]
  refine wpAnyH_take (i := 2) (oi := ⟨some 8, .build _ _, _, _, _, _⟩) (v := .agg (stcs ⟨1, putR 2 5, false⟩).toArray) rfl (by kernel_rfl) (by kernel_rfl) (by kernel_rfl) (fun _ _ _ h => h) (Or.inl ⟨by rfl, ?hy159⟩) (by assumption) ?rest159
  case hy159 =>
    intro w hSw

    exact exec_build2 (v0 := .int .u8 1) (v1 := .agg (rcs (putR 2 5)).toArray) (by rfl) (by rfl) (by rfl) (run_build_step w 1 (putR 2 5) (putR_in 2 5))
  try simp only [Act.put, List.setIfInBounds_toArray, List.set_cons_zero, List.set_cons_succ]
  refine wpAnyH_ready (rs := [3]) (by kernel_rfl) (by simp) ?_
  refine AllReadyH.cons (o := ⟨some 9, .call _, _, _, _, _⟩) rfl (fun K hK => ?_) AllReadyH.nil
  go_simp
  refine (scput_any 2 6 _).mono ?_
  rintro e y2 ⟨rfl, b2⟩
  have B2 : Below w1.heap.size w1 y2 := bthen B1 b2
  clear b2
  go_wp2_with fail
  clear hHeld
  refine hK.out _ _ (SO.out _ B2) (fun hHeld => ?_)
  clear hK K
  try simp only [Act.put, List.setIfInBounds_toArray, List.set_cons_zero, List.set_cons_succ]
  refine wpAnyH_take (i := 4) (oi := ⟨some 10, .build _ _, _, _, _, _⟩) (v := .agg (stcs ⟨0, putR 2 6, false⟩).toArray) rfl (by kernel_rfl) (by kernel_rfl) (by kernel_rfl) (fun _ _ _ h => h) (Or.inl ⟨by rfl, ?hy160⟩) (by assumption) ?rest160
  case hy160 =>
    intro w hSw

    exact exec_build2 (v0 := .int .u8 0) (v1 := .agg (rcs (putR 2 6)).toArray) (by rfl) (by rfl) (by rfl) (run_build_step w 0 (putR 2 6) (putR_in 2 6))
  try simp only [Act.put, List.setIfInBounds_toArray, List.set_cons_zero, List.set_cons_succ]
  refine wpAnyH_ready (rs := [5]) (by kernel_rfl) (by simp) ?_
  refine AllReadyH.cons (o := ⟨some 11, .call _, _, _, _, _⟩) rfl (fun K hK => ?_) AllReadyH.nil
  go_simp
  refine (scput_any 2 8 _).mono ?_
  rintro e y3 ⟨rfl, b3⟩
  have B3 : Below w1.heap.size w1 y3 := bthen B2 b3
  clear b3
  go_wp2_with fail
  clear hHeld
  refine hK.out _ _ (SO.out _ B3) (fun hHeld => ?_)
  clear hK K
  try simp only [Act.put, List.setIfInBounds_toArray, List.set_cons_zero, List.set_cons_succ]
  refine wpAnyH_take (i := 6) (oi := ⟨some 12, .build _ _, _, _, _, _⟩) (v := .agg (stcs ⟨1, putR 2 8, false⟩).toArray) rfl (by kernel_rfl) (by kernel_rfl) (by kernel_rfl) (fun _ _ _ h => h) (Or.inl ⟨by rfl, ?hy161⟩) (by assumption) ?rest161
  case hy161 =>
    intro w hSw

    exact exec_build2 (v0 := .int .u8 1) (v1 := .agg (rcs (putR 2 8)).toArray) (by rfl) (by rfl) (by rfl) (run_build_step w 1 (putR 2 8) (putR_in 2 8))
  try simp only [Act.put, List.setIfInBounds_toArray, List.set_cons_zero, List.set_cons_succ]
  refine wpAnyH_ready (rs := [7]) (by kernel_rfl) (by simp) ?_
  refine AllReadyH.cons (o := ⟨some 13, .call _, _, _, _, _⟩) rfl (fun K hK => ?_) AllReadyH.nil
  go_simp
  refine (scput_any 1 9 _).mono ?_
  rintro e y4 ⟨rfl, b4⟩
  have B4 : Below w1.heap.size w1 y4 := bthen B3 b4
  clear b4
  go_wp2_with fail
  clear hHeld
  refine hK.out _ _ (SO.out _ B4) (fun hHeld => ?_)
  clear hK K
  try simp only [Act.put, List.setIfInBounds_toArray, List.set_cons_zero, List.set_cons_succ]
  refine wpAnyH_take (i := 8) (oi := ⟨some 14, .build _ _, _, _, _, _⟩) (v := .agg (stcs ⟨1, putR 1 9, false⟩).toArray) rfl (by kernel_rfl) (by kernel_rfl) (by kernel_rfl) (fun _ _ _ h => h) (Or.inl ⟨by rfl, ?hy162⟩) (by assumption) ?rest162
  case hy162 =>
    intro w hSw

    exact exec_build2 (v0 := .int .u8 1) (v1 := .agg (rcs (putR 1 9)).toArray) (by rfl) (by rfl) (by rfl) (run_build_step w 1 (putR 1 9) (putR_in 1 9))
  try simp only [Act.put, List.setIfInBounds_toArray, List.set_cons_zero, List.set_cons_succ]
  refine wpAnyH_ready (rs := [9]) (by kernel_rfl) (by simp) ?_
  refine AllReadyH.cons (o := ⟨some 15, .buildSlice _ _ _, _, _, _, _⟩) rfl (fun K hK => ?_) AllReadyH.nil
  refine step_slice_four y4 (by rfl) _ _ _ _ _ (by rfl) 53 _ 39 88 elemSt (by decide) (stcs ⟨1, putR 2 5, false⟩) (stcs ⟨0, putR 2 6, false⟩) (stcs ⟨1, putR 2 8, false⟩) (stcs ⟨1, putR 1 9, false⟩) HLn.out (by rfl) (by rfl) (by rfl) (by rfl) ?_
  have B5 : Below w1.heap.size w1 (y4.alloc (.cells (stcs ⟨1, putR 2 5, false⟩ ++ (stcs ⟨0, putR 2 6, false⟩ ++ (stcs ⟨1, putR 2 8, false⟩ ++ stcs ⟨1, putR 1 9, false⟩))).toArray 53)) := B4.alloc B4.size _
  have R5 : Rd (y4.alloc (.cells (stcs ⟨1, putR 2 5, false⟩ ++ (stcs ⟨0, putR 2 6, false⟩ ++ (stcs ⟨1, putR 2 8, false⟩ ++ stcs ⟨1, putR 1 9, false⟩))).toArray 53)) (y4.alloc (.cells (stcs ⟨1, putR 2 5, false⟩ ++ (stcs ⟨0, putR 2 6, false⟩ ++ (stcs ⟨1, putR 2 8, false⟩ ++ stcs ⟨1, putR 1 9, false⟩))).toArray 53)).heap.size (some ⟨y4.heap.size, 0, none⟩) (stls awL) := rd_new y4 _ 53 (0, 0)
  generalize y4.alloc (.cells (stcs ⟨1, putR 2 5, false⟩ ++ (stcs ⟨0, putR 2 6, false⟩ ++ (stcs ⟨1, putR 2 8, false⟩ ++ stcs ⟨1, putR 1 9, false⟩))).toArray 53) = y5 at B5 R5 ⊢
  clear hHeld
  refine hK.out _ _ (SO.out _ B5) (fun hHeld => ?_)
  clear hK K
  try simp only [Act.put, List.setIfInBounds_toArray, List.set_cons_zero, List.set_cons_succ]
  refine wpAnyH_ready (rs := [10]) (by kernel_rfl) (by simp) ?_
  refine AllReadyH.cons (o := ⟨some 16, .call _, _, _, _, _⟩) rfl (fun K hK => ?_) AllReadyH.nil
  go_simp
  refine (rlayd_any 2 8 6 8 3 8 4 4 (some ⟨y4.heap.size, 0, none⟩) awL y5 HG.out rfl rfl (by decide) awL_in R5).mono ?_
  rintro e y6 ⟨d, rfl, hI6, b6⟩
  have B6 : Below w1.heap.size w1 y6 := bthen B5 b6
  have HI6 := Lib.hid (hI6.shrink (U := fun k => w1.heap.size ≤ k) fun k _ h => Nat.le_trans B5.size h)
  clear b6 hI6 R5
  go_wp2_with fail
  clear hHeld
  refine hK.out _ _ (SO.out _ B6) (fun hHeld => ?_)
  clear hK K
  try simp only [Act.put, List.setIfInBounds_toArray, List.set_cons_zero, List.set_cons_succ]
  refine wpAnyH_take (i := 11) (oi := ⟨some 2, .assign _, _, _, _, _⟩) (v := ?v163) rfl (by kernel_rfl) (by kernel_rfl) (by kernel_rfl) (fun _ _ _ h => h) (Or.inl ⟨by rfl, ?hy163⟩) (by assumption) ?rest163
  case hy163 =>
    intro w hSw

    go_simp
    try with_reducible rfl
  try simp only [Act.put, List.setIfInBounds_toArray, List.set_cons_zero, List.set_cons_succ]
  refine wpAnyH_done (by kernel_rfl) ?_ _
  clear hHeld
  have HB6 := Lib.hid B6
  clear B1 B2 B3 B4 B5 B6
  have HD : Hid (DUp 4 awD ∧ Meas 2 8 6 8 3 8 awD) := Lib.hid ⟨lay_up awL (up_new HG.out rfl).1 awL_in (by decide), lay_meas awL (up_new HG.out rfl).2⟩
  have HAl := Lib.hid fun (W : World) (hI : DevIs (fun k => w1.heap.size ≤ k) W d awD) (hs : w1.heap.size ≤ W.heap.size) => all_any (T := fun k => w1.heap.size ≤ k) 2 4 HD.out.1.ok.ok HD.out.1.od HD.out.1.up (fun k hk => Nat.le_trans hs hk) hI
  obtain ⟨m1, m2, m3, m4, m5, m6⟩ := HD.out.2
  rw [m1, m2, m3, m4, m5] at HAl
  clear m1 m2 m3 m4 m5 m6
  obtain ⟨c0, c1, c2, c3, c4⟩ := SO.out _ HB6.out
  have HI7 : Hid (DevIs (fun k => w1.heap.size ≤ k) y6 d awD) := HI6
  go_wp2_with fail
  refine (HAl.out y6 HI7.out HB6.out.size).mono ?_
  rintro e y7 ⟨V, L, rfl, hT, hown, hB7⟩
  obtain rfl : L = awT := hT.one aw_told
  obtain ⟨A7, k7, rfl⟩ := own_slice hown
  obtain ⟨g, rfl, _, _⟩ := own_at hown (by decide)
  have HR7 := Lib.hid (Rd.own hown)
  have HB7 := Lib.hid (HB.out.trans ((bthen HB6.out hB7).mono HB.out.size))
  have e0 : y7.cell? ⟨g, 0, none⟩ = some (.int .i64 9) := HR7.out.cell0 (fls_at awT_in (k := 0) (j := 0) rfl rfl)
  have e1 : y7.cell? ⟨g, 38, none⟩ = some (.int .i64 1) := HR7.out.cell0 (fls_at awT_in (k := 1) (j := 0) rfl rfl)
  have e2 : y7.cell? ⟨g, 79, none⟩ = some (.int .i64 8) := HR7.out.cell0 (fls_at awT_in (k := 2) (j := 3) rfl rfl)
  have HC4 := Lib.hid fun (W : World) (hb : Below y7.heap.size y7 W) => chain_any (some ⟨g, 0, none⟩) 3 k7 awT 4 W rfl (by decide) awT_in (by decide) ((HR7.out.below hb).more hb.size)
  have HL4 := Lib.hid fun (W : World) (hb : Below y7.heap.size y7 W) => last_any (some ⟨g, 0, none⟩) 3 k7 awT 4 W rfl (by decide) awT_in (by decide) ((HR7.out.below hb).more hb.size)
  have HL6 := Lib.hid fun (W : World) (hb : Below y7.heap.size y7 W) => last_any (some ⟨g, 0, none⟩) 3 k7 awT 6 W rfl (by decide) awT_in (by decide) ((HR7.out.below hb).more hb.size)
  have hc4 : (chainS awT 4).length = 2 := rfl
  have hc6 : (chainS awT 6).length = 0 := rfl
  rw [hc4] at HC4 HL4
  rw [hc6] at HL6
  rw [show ((4 : Int) + ((2 : Nat) : Int)) = 6 from rfl] at HL4
  rw [show ((6 : Int) + ((0 : Nat) : Int)) = 6 from rfl] at HL6
  have hl3 : awT.length = 3 := rfl
  rw [hl3]
  clear hown hB7 hT c0 c1 c2 c3 c4 hc4 hc6 hl3 HAl
  go_wp2_with fail
  refine (HC4.out y7 (Below.refl _ _)).mono ?_
  rintro e y8 ⟨V8, rfl, hown8, hB8⟩
  obtain ⟨A8, k8, rfl⟩ := own_slice hown8
  have HB8 := Lib.hid hB8
  clear hown8 hB8 e0 e1 e2 HC4
  go_wp2_with fail
  refine (HL4.out y8 HB8.out).mono ?_
  rintro e y9 ⟨rfl, hB9⟩
  have HB9 := Lib.hid (bthen HB8.out hB9)
  clear hB9 HL4
  go_wp2_with fail
  refine (HL6.out y9 HB9.out).mono ?_
  rintro e y10 ⟨rfl, hB10⟩
  have HB10 := Lib.hid (bthen HB7.out (bthen HB9.out hB10))
  clear hB10 HL6
  go_wp2
  go_ret
  exact ⟨rfl, HB10.out⟩
end Go.Proofs.Ythgjlofebicpiaa

/-
  The arguments of layer 14's laws, opened.
-/
namespace Go.Proofs.Ythgjlofebicpiaa
open Go.RowKit Go.ChangeShapes Go.WideShapes Geom Zone Dev Word Rec Scan
set_option linter.unusedVariables false

abbrev shR : Sh := .pair 1 (.int .i64) (.pair 1 (.int .i64) (.pair 1 (.int .i64) (.pair 1 (.int .i64) (.pair 1 (.int .i64) (.pair 32 (.rep 32 1 (.int .u8)) .nil)))))
theorem wf_I64 {x : Int} (h : (Lit.int .i64 x).wf = true) : I64 x := by
  have := wf_i64 h
  unfold I64
  omega
theorem has_rec {w : World} {cs : List Value} (h : Has shR w cs) : ∃ r : Rc, cs = rcs r ∧ In r ∧ R64 r := by
  obtain ⟨_, _, rfl, _, ⟨k, rfl, hk⟩, _, _, rfl, _, ⟨e, rfl, he⟩, _, _, rfl, _, ⟨s, rfl, hs⟩, _, _, rfl, _, ⟨b, rfl, hb⟩, _, _, rfl, _, ⟨c, rfl, hc⟩, _, _, rfl, _, hd, rfl⟩ := h
  obtain ⟨ws, h1, rfl, h3⟩ := has_ints hd
  exact ⟨⟨k, e, s, b, c, ws⟩, by simp [rcs, bs], ⟨h1, wf_u8 h3⟩, wf_I64 hk, wf_I64 he, wf_I64 hs, wf_I64 hb, wf_I64 hc⟩
theorem rows_founds {w : World} : ∀ (rows : List (List Value)), (∀ r ∈ rows, r.length = 38 ∧ Has (.pair 1 (.int .i64) (.pair 37 shR .nil)) w r) → ∃ ls : List Fo, ls.length = rows.length ∧ rows.flatten = fls ls ∧ ∀ l ∈ ls, FIn l
  | [], _ => ⟨[], rfl, rfl, fun l h => (List.not_mem_nil h).elim⟩
  | r :: rows, h => by
    obtain ⟨ls, h1, h2, h3⟩ := rows_founds rows fun x hx => h x (List.mem_cons_of_mem _ hx)
    obtain ⟨_, _, _, rfl, _, ⟨p, rfl, _⟩, _, _, rfl, _, hr, rfl⟩ := h r List.mem_cons_self
    obtain ⟨x, rfl, g1, _⟩ := has_rec hr
    refine ⟨⟨p, x⟩ :: ls, by simp [h1], ?_, ?_⟩
    · rw [List.flatten_cons, h2]
      simp [fls, fcs]
    · intro l hl
      rcases List.mem_cons.1 hl with rfl | hl
      · exact g1
      · exact h3 l hl
set_option maxRecDepth 100000 in
theorem open_founds {H : Type} {enc : TypeId × Value → H} {w : World} {base b0 : Nat} {r : Reach} {sp : Nat → Bool} {held : Bool} {v : Value} {d : DataW H} {ps : List MemPlace}
    (hu : Value.okWide Try.prog w r b0 29 v) (h : DataW.Trod enc Try.prog w base sp held 29 v d ps) :
    ∃ (A : Option Addr) (n cap : Nat) (ls : List Fo), v = .slice A n cap ∧ n ≤ maxLen ∧ ls.length = n ∧ (∀ l ∈ ls, FIn l) ∧ Rd w w.heap.size A (fls ls) := by
  obtain ⟨a, len, cap, rfl⟩ := okWide_slice Try.underlying29 hu
  have hs := has_of (s := .slice 38 (.pair 1 (.int .i64) (.pair 37 shR .nil))) 6 (by kernel_rfl) h
  obtain ⟨A, n, c, rows, h1, h2, h3, h4, h5, h6⟩ := hs
  obtain ⟨ls, h7, h8, h10⟩ := rows_founds rows h6
  have h9 : [Value.slice a len cap] = [.slice A n c] := h1
  obtain ⟨rfl, rfl, rfl⟩ : a = A ∧ len = n ∧ cap = c := by simpa using h9
  exact ⟨a, len, cap, ls, rfl, by omega, by omega, h10, by rw [← h8]; exact h5⟩
theorem rows_steps {w : World} : ∀ (rows : List (List Value)), (∀ r ∈ rows, r.length = 39 ∧ Has (.pair 1 (.int .u8) (.pair 37 shR (.pair 1 .bool .nil))) w r) → ∃ ls : List St, ls.length = rows.length ∧ rows.flatten = stls ls ∧ ∀ l ∈ ls, StIn l
  | [], _ => ⟨[], rfl, rfl, fun l h => (List.not_mem_nil h).elim⟩
  | r :: rows, h => by
    obtain ⟨ls, h1, h2, h3⟩ := rows_steps rows fun x hx => h x (List.mem_cons_of_mem _ hx)
    obtain ⟨_, _, _, rfl, _, ⟨z, rfl, hz⟩, _, _, rfl, _, hr, _, _, rfl, _, ⟨j, rfl⟩, rfl⟩ := h r List.mem_cons_self
    obtain ⟨x, rfl, g1, g2⟩ := has_rec hr
    have hb := wf_byte hz
    refine ⟨⟨z, x, j⟩ :: ls, by simp [h1], ?_, ?_⟩
    · rw [List.flatten_cons, h2]
      simp [stls, stcs]
    · intro l hl
      rcases List.mem_cons.1 hl with rfl | hl
      · exact ⟨hb.1, by show z < 256; omega, g2, g1⟩
      · exact h3 l hl
set_option maxRecDepth 100000 in
theorem open_steps {H : Type} {enc : TypeId × Value → H} {w : World} {base b0 : Nat} {r : Reach} {sp : Nat → Bool} {held : Bool} {v : Value} {d : DataW H} {ps : List MemPlace}
    (hu : Value.okWide Try.prog w r b0 24 v) (h : DataW.Trod enc Try.prog w base sp held 24 v d ps) :
    ∃ (A : Option Addr) (n cap : Nat) (ls : List St), v = .slice A n cap ∧ n ≤ maxLen ∧ ls.length = n ∧ (∀ l ∈ ls, StIn l) ∧ Rd w w.heap.size A (stls ls) := by
  obtain ⟨a, len, cap, rfl⟩ := okWide_slice Try.underlying24 hu
  have hs := has_of (s := .slice 39 (.pair 1 (.int .u8) (.pair 37 shR (.pair 1 .bool .nil)))) 6 (by kernel_rfl) h
  obtain ⟨A, n, c, rows, h1, h2, h3, h4, h5, h6⟩ := hs
  obtain ⟨ls, h7, h8, h10⟩ := rows_steps rows h6
  have h9 : [Value.slice a len cap] = [.slice A n c] := h1
  obtain ⟨rfl, rfl, rfl⟩ : a = A ∧ len = n ∧ cap = c := by simpa using h9
  exact ⟨a, len, cap, ls, rfl, by omega, by omega, h10, by rw [← h8]; exact h5⟩
/-- what is told of a device that has power, on a measure's own letters -/
theorem all_on {conv soft seq size opn : Int} {n k : Nat} {D : Dv} (ep sq : Int) {w : World} {d : Nat} {T : Nat → Prop} (h : DUp k D) (hm : Meas conv soft seq size opn n D) (hT : ∀ k, w.heap.size ≤ k → T k) (hI : DevIs T w d D) :
    Calls Try.prog 10 #[dp d, gvS conv soft seq size opn, .int .i64 ep, .int .i64 sq] w fun e w' =>
      ∃ V L, e = .returned (.tuple #[V, .int .i64 0]) ∧ Tells (foundD D ep sq) L ∧ w'.ownsRow w.heap.size 56 38 V L.length (fls L) ∧ Below w.heap.size w w' := by
  obtain ⟨rfl, rfl, rfl, rfl, rfl, _⟩ := hm
  exact all_any ep sq h.ok.ok h.od h.up hT hI
end Go.Proofs.Ythgjlofebicpiaa

/-
  Package pool: Step.
-/
import Derived.Test.YtbhcemipjfdemaaPoH
import Derived.StillTailTactics
namespace Go.Proofs.Ytbhcemipjfdemaa
open Go.RowKit Geom Leaf Pol
set_option linter.unusedVariables false

abbrev pacl (z o : Int) : List Value := [.int .i64 z, .int .i64 o]
theorem zero_pacl (w : World) : (zeroValue 48).run Try.prog w = .ok (.agg (pacl 0 0).toArray) w :=
  (zero_of_info (P := Try.prog) (t := 48) (v := .agg (pacl 0 0).toArray) (n := 2) (by kernel_rfl)).1 w
theorem pacl_size (z o : Int) : (Try.prog.info? 48).map (·.size) = some (pacl z o).length := by
  show _ = some 2
  kernel_rfl
theorem pacl_one (z o : Int) : ∀ u ∈ pacl z o, u.oneCell' = true := by simp [pacl, Value.oneCell']
theorem wpList_pat_store {w : World} {ops : Array Oper} {rest : List Oper} {o : Oper} {a : Act} {Q : Exit → Act → World → Prop} (hgd : o.guard = none) (x y : Operand) (ho : o.op = .store 48 x y) (g : Nat) (z f z' f' : Int)
    (hx : a.eval x = .pointer (some ⟨g, 0, none⟩)) (hy : a.eval y = .agg #[.int .i64 z, .int .i64 f]) (hb : Box w g 48 (pacl z' f'))
    (h : ∀ w', Box w' g 48 (pacl z f) → w.grownBy w' (some g) → wpList Try.prog ops Q rest (a.put o.dst undef) w') : wpList Try.prog ops Q (o :: rest) a w :=
  wpList_store_box w hgd _ x y ho g (pacl z f) (pacl z' f') (pacl_size ..) rfl (pacl_one z f) hx hy hb
    (h _ (setRow_heap w g _ _ _ _ hb) ⟨rfl, rfl, rfl, by simp [World.setRow], fun k _ hk => setRow_other w g k _ (by intro e; exact hk (by rw [e]))⟩)
theorem wpList_pat_alloc {w : World} {ops : Array Oper} {rest : List Oper} {o : Oper} {a : Act} {Q : Exit → Act → World → Prop} (hgd : o.guard = none) (ho : o.op = .alloc 48)
    (h : ∀ w', Box w' w.heap.size 48 (pacl 0 0) → Below w.heap.size w w' → w'.heap.size = w.heap.size + 1 → wpList Try.prog ops Q rest (a.put o.dst (.pointer (some ⟨w.heap.size, 0, none⟩))) w') : wpList Try.prog ops Q (o :: rest) a w :=
  wpList_alloc_box w hgd _ ho _ zero_pacl h
theorem step_pat_store {w : World} {ops : Array Oper} {o : Oper} {a : Act} {K : Act → World → Prop} {Q : Exit → Act → World → Prop} {E : Prop} (hgd : o.guard = none) (x y : Operand) (ho : o.op = .store 48 x y) (g : Nat) (z f z' f' : Int)
    (hx : a.eval x = .pointer (some ⟨g, 0, none⟩)) (hy : a.eval y = .agg #[.int .i64 z, .int .i64 f]) (hb : Box w g 48 (pacl z' f')) (h : ∀ w', Box w' g 48 (pacl z f) → w.grownBy w' (some g) → K (a.put o.dst undef) w') :
    if Region.wanted o (yielded ops a.tmps) = true then Oper.wp Try.prog o a w K Q else E := by
  have hw : Region.wanted o (yielded ops a.tmps) = true := by simp [Region.wanted, hgd]
  rw [if_pos hw]
  have hrun := run_storeVar_row (P := Try.prog) w g 48 48 (pacl z' f').toArray (pacl z f).toArray hb (by simpa using pacl_size z f) rfl (all_oneCell_toArray (pacl_one z f))
  have hK := h (w.setRow g (pacl z f).toArray) (setRow_heap w g _ _ _ _ hb) ⟨rfl, rfl, rfl, by simp [World.setRow], fun k _ hk => setRow_other w g k _ (by intro e; exact hk (by rw [e]))⟩
  unfold Oper.wp execOp
  simp only [ho, hx, hy, Instr.storeAt, Instr.sureAddr, Sem.run_bind, Sem.run_pure, Result.andThen_ok, hrun]
  exact hK
theorem step_pool_store {w : World} {ops : Array Oper} {o : Oper} {a : Act} {K : Act → World → Prop} {Q : Exit → Act → World → Prop} {E : Prop} (hgd : o.guard = none) (x y : Operand) (ho : o.op = .store 27 x y) (g : Nat) (A A' : Option Addr) (n n' cap cap' : Nat) (h0 h1 h2 k0 k1 k2 : Int)
    (hx : a.eval x = .pointer (some ⟨g, 0, none⟩)) (hy : a.eval y = ppv A n cap h0 h1 h2) (hb : Box w g 27 (plcs A' n' cap' k0 k1 k2)) (h : ∀ w', Box w' g 27 (plcs A n cap h0 h1 h2) → w.grownBy w' (some g) → K (a.put o.dst undef) w') :
    if Region.wanted o (yielded ops a.tmps) = true then Oper.wp Try.prog o a w K Q else E := by
  have hw : Region.wanted o (yielded ops a.tmps) = true := by simp [Region.wanted, hgd]
  rw [if_pos hw]
  have hrun := run_storeVar_row (P := Try.prog) w g 27 27 (plcs A' n' cap' k0 k1 k2).toArray (plcs A n cap h0 h1 h2).toArray hb (by simpa using pool_size A n cap h0 h1 h2) rfl (all_oneCell_toArray (plcs_one A n cap h0 h1 h2))
  have hK := h (w.setRow g (plcs A n cap h0 h1 h2).toArray) (setRow_heap w g _ _ _ _ hb) ⟨rfl, rfl, rfl, by simp [World.setRow], fun k _ hk => setRow_other w g k _ (by intro e; exact hk (by rw [e]))⟩
  unfold Oper.wp execOp
  simp only [ho, hx, hy, Instr.storeAt, Instr.sureAddr, Sem.run_bind, Sem.run_pure, Result.andThen_ok, hrun]
  exact hK
theorem Box.at2 {w : World} {b : Nat} {T : TypeId} {z o : Int} (h : Box w b T (pacl z o)) : w.cell? ⟨b, 0, none⟩ = some (.int .i64 z) ∧ w.cell? ⟨b, 1, none⟩ = some (.int .i64 o) := ⟨h.cell 0, h.cell 1⟩

theorem Box.drew1 {w : World} {b : Nat} {T : TypeId} {cs : List Value} (h : Box w b T cs) : Box w.drew b T cs := h
theorem HdSt.drew {w w' : World} {r base b g c : Nat} {conv soft seq size opn : Int} {A : Option Addr} {n cap : Nat} {h0 h1 h2 : Int} {ps : List Int} {k0 k1 k2 : Int}
    (h : HdSt w w' r base b g c conv soft seq size opn A n cap h0 h1 h2 ps k0 k1 k2) : HdSt w w'.drew r base b g c conv soft seq size opn A n cap h0 h1 h2 ps k0 k1 k2 :=
  ⟨h.gp.drew, h.rs, h.q, h.own, h.hw, h.hr, h.hb, h.hg⟩
theorem GP.res2 (w : World) (conv soft seq size opn : Int) (A : Option Addr) (n cap : Nat) (h0 h1 h2 : Int) :
    let W := (((w.alloc (.cells #[.int .i64 conv, .int .i64 soft, .int .i64 seq, .int .i64 size, .int .i64 opn] 23)).alloc (.cells #[.slice A n cap, .int .i64 h0, .int .i64 h1, .int .i64 h2] 27)).alloc (.cells #[.int .i64 0, .int .i64 0] 48)).alloc (.cells #[.slice none 0 0, .int .i64 0, .int .i64 0, .int .i64 0] 27)
    GP w W conv soft seq size opn A n cap h0 h1 h2 ∧ Box W (w.heap.size + 1 + 1) 48 (pacl 0 0) ∧ Box W (w.heap.size + 1 + 1 + 1) 27 (plcs none 0 0 0 0 0) := by
  refine ⟨((GP.new ..).alloc _).alloc _, ?_, ?_⟩
  · have h := (Box.new ((w.alloc (.cells #[.int .i64 conv, .int .i64 soft, .int .i64 seq, .int .i64 size, .int .i64 opn] 23)).alloc (.cells #[.slice A n cap, .int .i64 h0, .int .i64 h1, .int .i64 h2] 27)) 48 (pacl 0 0)).alloc (.cells #[.slice none 0 0, .int .i64 0, .int .i64 0, .int .i64 0] 27)
    rwa [show ((w.alloc (.cells #[.int .i64 conv, .int .i64 soft, .int .i64 seq, .int .i64 size, .int .i64 opn] 23)).alloc (.cells #[.slice A n cap, .int .i64 h0, .int .i64 h1, .int .i64 h2] 27)).heap.size = w.heap.size + 1 + 1 by simp] at h
  · have h := Box.new (((w.alloc (.cells #[.int .i64 conv, .int .i64 soft, .int .i64 seq, .int .i64 size, .int .i64 opn] 23)).alloc (.cells #[.slice A n cap, .int .i64 h0, .int .i64 h1, .int .i64 h2] 27)).alloc (.cells #[.int .i64 0, .int .i64 0] 48)) 27 (plcs none 0 0 0 0 0)
    rwa [show (((w.alloc (.cells #[.int .i64 conv, .int .i64 soft, .int .i64 seq, .int .i64 size, .int .i64 opn] 23)).alloc (.cells #[.slice A n cap, .int .i64 h0, .int .i64 h1, .int .i64 h2] 27)).alloc (.cells #[.int .i64 0, .int .i64 0] 48)).heap.size = w.heap.size + 1 + 1 + 1 by simp] at h
section
variable (conv soft seq size opn : Int) (A : Option Addr) (n cap : Nat) (ps : List Int) (h0 h1 h2 : Int) (s : Nat)
theorem pheaded_pick (z : Int) (w : World) (hm : n ≤ 64) (hn : ps.length = n) (S : Some conv seq size) (R : Ri conv seq size ps h0 h1 h2) (hr : Rd w w.heap.size A (is ps)) (hs : s < 3) (hz : pick conv ps h0 h1 h2 n s = some z) :
    Calls Try.prog 43 #[pgv conv soft seq size opn, ppv A n cap h0 h1 h2, .int .i64 s] w fun e w' => ∃ g c, e = .returned (.tuple #[ppv (some ⟨g, 0, none⟩) n c (sH s 0 z h0) (sH s 1 z h1) (sH s 2 z h2), .bool true]) ∧ w'.ownsRow w.heap.size 3 1 (.slice (some ⟨g, 0, none⟩) n c) n (is ps) ∧ Below w.heap.size w w' := by
  by_cases hh : hd h0 h1 h2 s = 0
  · rw [pick_free hh] at hz
    cases hf : freeX conv ps h0 h1 h2 n with
    | nil => rw [hf] at hz; cases hz
    | cons y ys =>
      rw [hf] at hz
      obtain rfl : y = z := by simpa using hz
      exact pheaded_free conv soft seq size opn A n cap ps h0 h1 h2 s y ys w hm hn S R hr hs hh hf
  · rw [pick_head hh] at hz
    injection hz with hz
    subst hz
    obtain ⟨e0, e1, e2⟩ := sH_self (h0 := h0) (h1 := h1) (h2 := h2) hs
    rw [e0, e1, e2]
    exact pheaded_own conv soft seq size opn A n cap ps h0 h1 h2 s w hm hn S R hr hs hh
theorem pheaded_none (w : World) (hm : n ≤ 64) (hn : ps.length = n) (S : Some conv seq size) (R : Ri conv seq size ps h0 h1 h2) (hr : Rd w w.heap.size A (is ps)) (hs : s < 3) (hz : pick conv ps h0 h1 h2 n s = none) :
    Calls Try.prog 43 #[pgv conv soft seq size opn, ppv A n cap h0 h1 h2, .int .i64 s] w fun e w' => ∃ g c, e = .returned (.tuple #[ppv (some ⟨g, 0, none⟩) n c h0 h1 h2, .bool false]) ∧ w'.ownsRow w.heap.size 3 1 (.slice (some ⟨g, 0, none⟩) n c) n (is ps) ∧ Below w.heap.size w w' := by
  by_cases hh : hd h0 h1 h2 s = 0
  · rw [pick_free hh] at hz
    cases hf : freeX conv ps h0 h1 h2 n with
    | nil => exact pheaded_no conv soft seq size opn A n cap ps h0 h1 h2 s w hm hn S R hr hs hh hf
    | cons y ys => rw [hf] at hz; cases hz
  · rw [pick_head hh] at hz
    cases hz

set_option maxRecDepth 100000 in
set_option maxHeartbeats 4000000 in
theorem pstep_none (w : World) (hm : n ≤ 64) (hn : ps.length = n) (S : Some conv seq size) (R : Ri conv seq size ps h0 h1 h2) (hr : Rd w w.heap.size A (is ps)) (hs : s < 3) (hz : pick conv ps h0 h1 h2 n s = none) :
    Calls Try.prog 29 #[pgv conv soft seq size opn, ppv A n cap h0 h1 h2, .int .i64 s] w fun e w' => ∃ g c, e = .returned (.tuple #[.agg #[.int .i64 0, .int .i64 0], ppv (some ⟨g, 0, none⟩) n c h0 h1 h2, .bool false]) ∧ w'.ownsRow w.heap.size 3 1 (.slice (some ⟨g, 0, none⟩) n c) n (is ps) ∧ Below w.heap.size w w' := by
  have H0 := Lib.hid (GP.res2 w conv soft seq size opn A n cap h0 h1 h2)
  have hp : 0 < n := by have := R.len; have := S.2.1; omega
  have HC := Lib.hid fun w' (h : GP w w' conv soft seq size opn A n cap h0 h1 h2) => pcopied_any A n cap ps h0 h1 h2 w' hm hn hp (hr.gp h)
  have HH := Lib.hid fun w' (h : GP w w' conv soft seq size opn A n cap h0 h1 h2) => pheaded_none conv soft seq size opn A n cap ps h0 h1 h2 s w' hm hn S R (hr.gp h) hs hz
  have HP := Lib.hid hp
  clear hr R S hn hs hz hp
  go_enter Try.func29, Try.ntmps29
  go_wp2_with fail
  generalize World.alloc _ _ = w0 at H0 ⊢
  obtain ⟨c0, c1, c2, c3, c4, cl⟩ := id H0.out.1.1
  obtain ⟨a0, a1, a2, a3, al⟩ := id H0.out.1.2.1
  go_wp2_with fail
  refine (HH.out _ H0.out.1).mono ?_
  rintro e w1 ⟨g, c, rfl, hown, hb⟩
  have HB := Lib.hid hb
  have HO := Lib.hid hown
  clear c0 c1 c2 c3 c4 cl a0 a1 a2 a3 al HH hb hown
  go_wp2_with (first
    | ((with_reducible refine wpList_pool_alloc (o := ⟨_, .alloc _, _, _, _, _⟩) rfl rfl ?_); intro w2 x2 hb2 hs2; clear hs2)
    | ((with_reducible refine wpList_pool_store (o := ⟨none, .store _ _ _, _, _, _, _⟩) rfl _ _ rfl _ (some ⟨g, 0, none⟩) none n 0 c 0 h0 h1 h2 0 0 0 rfl rfl x2 ?_); intro w3 x3 hg3; have H3 := Lib.hid (HdSt.made H0.out.1 H0.out.2.2 (show w.heap.size + 1 < w.heap.size + 1 + 1 + 1 by omega) HB.out HO.out HP.out hb2 x2 x3 hg3); have HA3 := Lib.hid (((H0.out.2.1.on HB.out).on hb2).grown hg3 (by have := H0.out.2.1.lt; have := HB.out.size; omega)); clear x2 x3 hb2 hg3; generalize w1.heap.size = b at H3 ⊢; obtain ⟨b0, b1, b2, b3, bl⟩ := H3.out.q.pool; obtain ⟨a0, a1, a2, a3, al⟩ := id H3.out.gp.2.1)
    | fail)
  refine (HC.out _ H3.out.gp).mono ?_
  rintro e w4 ⟨g4, c4, rfl, hown4, hb4⟩
  have H4 := Lib.hid (H3.out.on hb4)
  have HA4 := Lib.hid (HA3.out.on hb4)
  have HO4 := Lib.hid (own_base0 hown4 H3.out.gp.2.2.size)
  obtain ⟨g4', hgA, hgw, hg⟩ := own_at hown4 HP.out
  obtain rfl : g4 = g4' := by injection hgA with h; injection h
  have HG4 := Lib.hid (show w.heap.size + 1 + 1 + 1 < g4 by have := H3.out.rs.lt; omega)
  clear a0 a1 a2 a3 al b0 b1 b2 b3 bl hown4 hb4 hgA hgw hg HC
  go_wp2_with (first
    | ((with_reducible refine wpList_pat_store (o := ⟨none, .store _ _ _, _, _, _, _⟩) rfl _ _ rfl _ 0 0 0 0 rfl rfl HA4.out ?_); intro w5 x5 hg5; have HR5 := Lib.hid (H4.out.rs.grown hg5 (by omega)); have HO5 := Lib.hid (own_grown HO4.out hg5 (by have := HG4.out; omega)); have HB5 := Lib.hid (H4.out.gp.2.2.grown hg5 H4.out.gp.2.2.size (fun k hk => by injection hk with hk; omega)); have HX5 := Lib.hid x5; clear x5 hg5 HA4)
    | ((with_reducible refine wpList_pool_store (o := ⟨none, .store _ _ _, _, _, _, _⟩) rfl _ _ rfl _ (some ⟨g4, 0, none⟩) none n 0 c4 0 h0 h1 h2 0 0 0 rfl rfl HR5.out ?_); intro w9 x9 hg9; have HF := Lib.hid (HB5.out.grown hg9 HB5.out.size (fun k hk => by injection hk with hk; omega)); have HO9 := Lib.hid (own_grown HO5.out hg9 (by have := HG4.out; omega)); obtain ⟨r0, r1, r2, r3, rl⟩ := Box.pool x9; obtain ⟨s0, s1⟩ := (HX5.out.grown hg9 (by omega)).at2; clear hg9 x9)
    | fail)
  exact bodyPost_ret (v := .tuple #[.agg #[.int .i64 0, .int .i64 0], ppv (some ⟨g4, 0, none⟩) n c4 h0 h1 h2, .bool false]) (by simp [results, Try.results29, go_sem, r0, r1, r2, r3, s0, s1]) rfl ⟨g4, c4, rfl, HO9.out, HF.out⟩

set_option maxRecDepth 100000 in
set_option maxHeartbeats 4000000 in
theorem pstep_full (j : Nat) (x : Int) (w : World) (hm : n ≤ 64) (hn : ps.length = n) (S : Some conv seq size) (R : Ri conv seq size ps h0 h1 h2) (hr : Rd w w.heap.size A (is ps)) (hs : s < 3) (hz : pick conv ps h0 h1 h2 n s = some (conv + j)) (hj : j < n) (hx : ps.getD j 0 = x) (hx0 : 0 ≤ x) (hx1 : x < size) (hf : x + 1 = size) :
    Calls Try.prog 29 #[pgv conv soft seq size opn, ppv A n cap h0 h1 h2, .int .i64 s] w fun e w' => ∃ g c, e = .returned (.tuple #[.agg #[.int .i64 (conv + j), .int .i64 x], ppv (some ⟨g, 0, none⟩) n c (sH s 0 0 h0) (sH s 1 0 h1) (sH s 2 0 h2), .bool true]) ∧ w'.ownsRow w.heap.size 3 1 (.slice (some ⟨g, 0, none⟩) n c) n (is (ps.set j (x + 1))) ∧ Below w.heap.size w w' := by
  have H0 := Lib.hid (GP.res2 w conv soft seq size opn A n cap h0 h1 h2)
  have hp : 0 < n := by omega
  have HH := Lib.hid fun w' (h : GP w w' conv soft seq size opn A n cap h0 h1 h2) => pheaded_pick conv soft seq size opn A n cap ps h0 h1 h2 s (conv + j) w' hm hn S R (hr.gp h) hs hz
  have HRo := Lib.hid fun w' A' c' (h : Rd w' w'.heap.size A' (is ps)) => proom_head conv soft seq size opn A' n c' ps (sH s 0 (conv + j) h0) (sH s 1 (conv + j) h1) (sH s 2 (conv + j) h2) s j w' hm hn S hs hj (hd_sH hs) (by omega) (by omega) h
  rw [hx] at HRo
  have HP := Lib.hid hp
  have HS := Lib.hid hs
  have HJ := Lib.hid hj
  have HN := Lib.hid hn
  have HX := Lib.hid hx
  have HB0 := Lib.hid (And.intro S (And.intro hx0 hx1))
  have hpc : (is ps)[j]? = some (.int .i64 x) := by rw [is_get (by rw [hn]; exact hj), hx]
  have HPc := Lib.hid hpc
  have HPc2 := Lib.hid (show (is (ps.set j (x + 1)))[j]? = some (.int .i64 (x + 1)) by rw [is_get (by rw [List.length_set, hn]; exact hj)]; simp [hn, hj])
  have hsI : (s : Int) < 3 := by omega
  have hjI : (j : Int) < (n : Int) := by omega
  have hd1 : decide (size - x ≤ 0) = false := decide_eq_false (by omega)
  have hw1 := IntWalk.i64_in (x + 1) (by have := S.2.2.2.2; omega)
  have hw2 : IntKind.i64.wrap (conv + (j : Int) - conv) = (j : Int) := by rw [show conv + (j : Int) - conv = j by omega]; exact IntWalk.i64_in _ (by omega)
  have hq : (x + 1 == size) = true := by rw [beq_iff_eq]; exact hf
  clear hr R S hn hs hz hp hj hx hx0 hx1 hf hpc
  go_enter Try.func29, Try.ntmps29
  go_wp2_with fail
  generalize World.alloc _ _ = w0 at H0 ⊢
  obtain ⟨c0, c1, c2, c3, c4, cl⟩ := id H0.out.1.1
  obtain ⟨a0, a1, a2, a3, al⟩ := id H0.out.1.2.1
  go_wp2_with fail
  refine (HH.out _ H0.out.1).mono ?_
  rintro e w1 ⟨g, c, rfl, hown, hb⟩
  have HB := Lib.hid hb
  have HO := Lib.hid hown
  clear c0 c1 c2 c3 c4 cl a0 a1 a2 a3 al HH hb hown
  go_wp2_with (first
    | ((with_reducible refine wpList_pool_alloc (o := ⟨_, .alloc _, _, _, _, _⟩) rfl rfl ?_); intro w2 x2 hb2 hs2; clear hs2)
    | ((with_reducible refine wpList_pool_store (o := ⟨none, .store _ _ _, _, _, _, _⟩) rfl _ _ rfl _ (some ⟨g, 0, none⟩) none n 0 c 0 (sH s 0 (conv + j) h0) (sH s 1 (conv + j) h1) (sH s 2 (conv + j) h2) 0 0 0 rfl rfl x2 ?_); intro w3 x3 hg3; have H3 := Lib.hid (HdSt.made H0.out.1 H0.out.2.2 (show w.heap.size + 1 < w.heap.size + 1 + 1 + 1 by omega) HB.out HO.out HP.out hb2 x2 x3 hg3); have HA3 := Lib.hid (((H0.out.2.1.on HB.out).on hb2).grown hg3 (by have := H0.out.2.1.lt; have := HB.out.size; omega)); clear x2 x3 hb2 hg3; generalize w1.heap.size = b at H3 ⊢; obtain ⟨b0, b1, b2, b3, bl⟩ := H3.out.q.pool; obtain ⟨c0, c1, c2, c3, c4, cl⟩ := id H3.out.gp.1)
    | fail)
  refine (HRo.out _ _ _ (Rd.own H3.out.own)).mono ?_
  rintro e w4 ⟨rfl, hb4⟩
  have H4 := Lib.hid (H3.out.on hb4)
  have HA4 := Lib.hid (HA3.out.on hb4)
  clear c0 c1 c2 c3 c4 cl b0 b1 b2 b3 bl hb4 H3 HA3 HRo
  obtain ⟨c0, c1, c2, c3, c4, cl⟩ := id H4.out.gp.1
  obtain ⟨b0, b1, b2, b3, bl⟩ := H4.out.q.pool
  have bh := (H4.out.q.pool.head HS.out).trans (by rw [hd_sH HS.out])
  have pc := (H4.out.own.cellAt j (by have := HJ.out; omega)).trans HPc.out
  go_wp2_with (first
    | ((with_reducible refine wpList_pat_alloc (o := ⟨_, .alloc _, _, _, _, _⟩) rfl rfl ?_); intro w5 x5 hb5 hs5; clear hs5)
    | ((with_reducible refine wpList_pat_store (o := ⟨none, .store _ _ _, _, _, _, _⟩) rfl _ _ rfl _ (conv + j) x 0 0 rfl rfl x5 ?_); intro w6 x6 hg6; have H6 := Lib.hid (H4.out.on (hb5.grown hg6 hb5.size (fun k hk => by injection hk with hk; omega))); have HA6 := Lib.hid (HA4.out.on (hb5.grown hg6 hb5.size (fun k hk => by injection hk with hk; omega))); have HV6 := Lib.hid x6; have HV := Lib.hid H4.out.hg.2; have HVb := Lib.hid H4.out.q.lt; have HVa := Lib.hid HA4.out.lt; have HVr := Lib.hid H4.out.rs.lt; clear c0 c1 c2 c3 c4 cl b0 b1 b2 b3 bl bh pc x5 x6 hb5 hg6 H4 HA4; generalize w4.heap.size = ba at HV6 HV HVb HVa HVr ⊢; have H7 := Lib.hid (H6.out.point HP.out j (x + 1)); obtain ⟨b0, b1, b2, b3, bl⟩ := H6.out.q.pool; have pc := (H6.out.own.cellAt j (by have := HJ.out; omega)).trans HPc.out; have pf := H6.out.own.frozenAt j; obtain ⟨c0, c1, c2, c3, c4, cl⟩ := id H7.out.gp.1; obtain ⟨e0, e1, e2, e3, el⟩ := H7.out.q.pool; have pd := (H7.out.own.cellAt j (by have := HJ.out; omega)).trans HPc2.out)
    | fail)
  have HA7 := Lib.hid (HA6.out.grown (H6.out.own.stored j (.int .i64 (x + 1))).2 (by have := H6.out.hg; have := H6.out.hr; omega))
  have HV7 := Lib.hid (HV6.out.grown (H6.out.own.stored j (.int .i64 (x + 1))).2 (by have := HV.out; omega))
  clear b0 b1 b2 b3 bl pc pf H6 HA6 HV6
  generalize World.setCell _ _ _ = w7 at H7 HA7 HV7 c0 c1 c2 c3 c4 cl e0 e1 e2 e3 el pd ⊢
  go_quiet (fail)
  have H8 := Lib.hid (H7.out.drewN nq)
  have HA8 := Lib.hid (HA7.out.draws nq)
  have HV8 := Lib.hid (HV7.out.draws nq)
  clear c0 c1 c2 c3 c4 cl e0 e1 e2 e3 el pd H7 HA7 HV7
  generalize w7.drewN nq = w8 at H8 HA8 HV8 ⊢
  have bh := H8.out.q.pool.head HS.out
  have bf := H8.out.q.frozen (1 + s)
  have HG8 := Lib.hid (pgrown_cell w8 ⟨b, 1 + s, none⟩ (.int .i64 0))
  have H9 := H8.out.head HP.out HS.out 0
  rw [sH_twice, sH_twice, sH_twice] at H9
  have H9 := Lib.hid H9
  have HA9 := Lib.hid (HA8.out.grown HG8.out (show w.heap.size + 1 + 1 ≠ b by have := H8.out.hb; have := H8.out.hr; omega))
  have HV9 := Lib.hid (HV8.out.grown HG8.out (show ba ≠ b by have := HVb.out; omega))
  clear H8 HA8 HV8 HG8
  go_wp2
  generalize World.setCell _ _ _ = w9 at H9 HA9 HV9 ⊢
  have H9 := Lib.hid (HdSt.drew H9.out)
  have HA9 := Lib.hid (Box.drew1 HA9.out)
  have HV9 := Lib.hid (Box.drew1 HV9.out)
  have SO := Lib.hid fun w' (hq : Box w' b 27 (plcs (some ⟨g, 0, none⟩) n c (sH s 0 0 h0) (sH s 1 0 h1) (sH s 2 0 h2))) (hv : Box w' ba 48 (pacl (conv + j) x)) => (⟨hq.cell 0, hq.cell 1, hq.cell 2, hq.cell 3, hv.cell 0, hv.cell 1⟩ :
    w'.cell? ⟨b, 0, none⟩ = some (.slice (some ⟨g, 0, none⟩) n c) ∧ w'.cell? ⟨b, 1, none⟩ = some (.int .i64 (sH s 0 0 h0)) ∧ w'.cell? ⟨b, 2, none⟩ = some (.int .i64 (sH s 1 0 h1)) ∧ w'.cell? ⟨b, 3, none⟩ = some (.int .i64 (sH s 2 0 h2)) ∧ w'.cell? ⟨ba, 0, none⟩ = some (.int .i64 (conv + j)) ∧ w'.cell? ⟨ba, 1, none⟩ = some (.int .i64 x))
  have hnb : w.heap.size + 1 + 1 + 1 < b := by have := H9.out.hb; have := H9.out.hr; omega
  have Hnb := Lib.hid hnb
  clear hnb
  refine wp_region_held_drew (S := (fun w' => w'.cell? ⟨b, 0, none⟩ = some (.slice (some ⟨g, 0, none⟩) n c) ∧ w'.cell? ⟨b, 1, none⟩ = some (.int .i64 (sH s 0 0 h0)) ∧ w'.cell? ⟨b, 2, none⟩ = some (.int .i64 (sH s 1 0 h1)) ∧ w'.cell? ⟨b, 3, none⟩ = some (.int .i64 (sH s 2 0 h2)) ∧ w'.cell? ⟨ba, 0, none⟩ = some (.int .i64 (conv + j)) ∧ w'.cell? ⟨ba, 1, none⟩ = some (.int .i64 x))) (by kernel_rfl) (SO.out _ H9.out.q HV9.out) (fun hHeld => ?_)
  refine wpAnyH_take (i := 0) (oi := ⟨some 66, .load _ _, _, _, _, _⟩) (v := .agg #[.int .i64 (conv + j), .int .i64 x]) rfl (by kernel_rfl) (by kernel_rfl) (by kernel_rfl) (fun _ _ _ h => h) (Or.inl ⟨by rfl, ?hy0⟩) (by assumption) ?rest0
  case hy0 =>
    intro w hSw
    try dsimp only at hSw
    go_simp
    try with_reducible rfl
  try simp only [Act.put, List.setIfInBounds_toArray, List.set_cons_zero, List.set_cons_succ]
  refine wpAnyH_take (i := 1) (oi := ⟨some 67, .load _ _, _, _, _, _⟩) (v := ppv (some ⟨g, 0, none⟩) n c (sH s 0 0 h0) (sH s 1 0 h1) (sH s 2 0 h2)) rfl (by kernel_rfl) (by kernel_rfl) (by kernel_rfl) (fun _ _ _ h => h) (Or.inl ⟨by rfl, ?hy1⟩) (by assumption) ?rest1
  case hy1 =>
    intro w hSw
    try dsimp only at hSw
    go_simp
    try with_reducible rfl
  try simp only [Act.put, List.setIfInBounds_toArray, List.set_cons_zero, List.set_cons_succ]
  refine wpAnyH_ready (rs := [2]) (by kernel_rfl) (by simp) ?_
  refine AllReadyH.cons (o := ⟨none, .store _ _ _, _, _, _, _⟩) rfl (fun K hK => ?_) AllReadyH.nil
  refine step_pat_store rfl _ _ rfl (w.heap.size + 1 + 1) (conv + j) x 0 0 (by rfl) (by rfl) HA9.out ?_
  intro w10 x10 hg10
  have Q10 := H9.out.q.grown hg10 (by have := Hnb.out; omega)
  have V10 := HV9.out.grown hg10 (by have := HVa.out; omega)
  have HR10 := Lib.hid (H9.out.rs.grown hg10 (by omega))
  have HO10 := Lib.hid (own_grown H9.out.own hg10 (by have := H9.out.hg; have := H9.out.hr; omega))
  have HB10 := Lib.hid (H9.out.gp.2.2.grown hg10 H9.out.gp.2.2.size (fun k hk => by injection hk with hk; omega))
  have HX10 := Lib.hid x10
  clear hHeld
  refine hK.out _ _ (SO.out _ Q10 V10) (fun hHeld => ?_)
  clear hK K
  try simp only [Act.put, List.setIfInBounds_toArray, List.set_cons_zero, List.set_cons_succ]
  refine wpAnyH_ready (rs := [3]) (by kernel_rfl) (by simp) ?_
  refine AllReadyH.cons (o := ⟨none, .store _ _ _, _, _, _, _⟩) rfl (fun K hK => ?_) AllReadyH.nil
  refine step_pool_store rfl _ _ rfl (w.heap.size + 1 + 1 + 1) (some ⟨g, 0, none⟩) none n 0 c 0 (sH s 0 0 h0) (sH s 1 0 h1) (sH s 2 0 h2) 0 0 0 (by rfl) (by rfl) HR10.out ?_
  intro w11 x11 hg11
  have Q11 := Q10.grown hg11 (by have := Hnb.out; omega)
  have V11 := V10.grown hg11 (by have := HVr.out; omega)
  have HF := Lib.hid (HB10.out.grown hg11 HB10.out.size (fun k hk => by injection hk with hk; omega))
  have HO11 := Lib.hid (own_base0 (own_grown HO10.out hg11 (by have := H9.out.hg; have := H9.out.hr; omega)) (by have := H9.out.hr; omega : w.heap.size ≤ w0.heap.size))
  obtain ⟨r0, r1, r2, r3, rl⟩ := Box.pool x11
  obtain ⟨s0, s1⟩ := (HX10.out.grown hg11 (by omega)).at2
  clear hHeld
  refine hK.out _ _ (SO.out _ Q11 V11) (fun hHeld => ?_)
  clear hK K
  try simp only [Act.put, List.setIfInBounds_toArray, List.set_cons_zero, List.set_cons_succ]
  refine wpAnyH_take (i := 4) (oi := ⟨some 8, .assign _, _, _, _, _⟩) (v := .bool true) rfl (by kernel_rfl) (by kernel_rfl) (by kernel_rfl) (fun _ _ _ h => h) (Or.inl ⟨by rfl, ?hy4⟩) (by assumption) ?rest4
  case hy4 =>
    intro w hSw
    try dsimp only at hSw
    go_simp
    try with_reducible rfl
  try simp only [Act.put, List.setIfInBounds_toArray, List.set_cons_zero, List.set_cons_succ]
  refine wpAnyH_done (by kernel_rfl) ?_ _
  try simp only [Act.put, List.setIfInBounds_toArray, List.set_cons_zero, List.set_cons_succ]
  go_wp2
  exact bodyPost_ret (v := .tuple #[.agg #[.int .i64 (conv + j), .int .i64 x], ppv (some ⟨g, 0, none⟩) n c (sH s 0 0 h0) (sH s 1 0 h1) (sH s 2 0 h2), .bool true]) (by simp [results, Try.results29, go_sem, r0, r1, r2, r3, s0, s1]) rfl ⟨g, c, rfl, HO11.out, HF.out⟩
set_option maxRecDepth 100000 in
set_option maxHeartbeats 4000000 in
theorem pstep_more (j : Nat) (x : Int) (w : World) (hm : n ≤ 64) (hn : ps.length = n) (S : Some conv seq size) (R : Ri conv seq size ps h0 h1 h2) (hr : Rd w w.heap.size A (is ps)) (hs : s < 3) (hz : pick conv ps h0 h1 h2 n s = some (conv + j)) (hj : j < n) (hx : ps.getD j 0 = x) (hx0 : 0 ≤ x) (hx1 : x < size) (hf : x + 1 ≠ size) :
    Calls Try.prog 29 #[pgv conv soft seq size opn, ppv A n cap h0 h1 h2, .int .i64 s] w fun e w' => ∃ g c, e = .returned (.tuple #[.agg #[.int .i64 (conv + j), .int .i64 x], ppv (some ⟨g, 0, none⟩) n c (sH s 0 (conv + j) h0) (sH s 1 (conv + j) h1) (sH s 2 (conv + j) h2), .bool true]) ∧ w'.ownsRow w.heap.size 3 1 (.slice (some ⟨g, 0, none⟩) n c) n (is (ps.set j (x + 1))) ∧ Below w.heap.size w w' := by
  have H0 := Lib.hid (GP.res2 w conv soft seq size opn A n cap h0 h1 h2)
  have hp : 0 < n := by omega
  have HH := Lib.hid fun w' (h : GP w w' conv soft seq size opn A n cap h0 h1 h2) => pheaded_pick conv soft seq size opn A n cap ps h0 h1 h2 s (conv + j) w' hm hn S R (hr.gp h) hs hz
  have HRo := Lib.hid fun w' A' c' (h : Rd w' w'.heap.size A' (is ps)) => proom_head conv soft seq size opn A' n c' ps (sH s 0 (conv + j) h0) (sH s 1 (conv + j) h1) (sH s 2 (conv + j) h2) s j w' hm hn S hs hj (hd_sH hs) (by omega) (by omega) h
  rw [hx] at HRo
  have HP := Lib.hid hp
  have HS := Lib.hid hs
  have HJ := Lib.hid hj
  have HN := Lib.hid hn
  have HX := Lib.hid hx
  have HB0 := Lib.hid (And.intro S (And.intro hx0 hx1))
  have hpc : (is ps)[j]? = some (.int .i64 x) := by rw [is_get (by rw [hn]; exact hj), hx]
  have HPc := Lib.hid hpc
  have HPc2 := Lib.hid (show (is (ps.set j (x + 1)))[j]? = some (.int .i64 (x + 1)) by rw [is_get (by rw [List.length_set, hn]; exact hj)]; simp [hn, hj])
  have hsI : (s : Int) < 3 := by omega
  have hjI : (j : Int) < (n : Int) := by omega
  have hd1 : decide (size - x ≤ 0) = false := decide_eq_false (by omega)
  have hw1 := IntWalk.i64_in (x + 1) (by have := S.2.2.2.2; omega)
  have hw2 : IntKind.i64.wrap (conv + (j : Int) - conv) = (j : Int) := by rw [show conv + (j : Int) - conv = j by omega]; exact IntWalk.i64_in _ (by omega)
  have hq : (x + 1 == size) = false := by rw [beq_eq_false_iff_ne]; exact hf
  clear hr R S hn hs hz hp hj hx hx0 hx1 hf hpc
  go_enter Try.func29, Try.ntmps29
  go_wp2_with fail
  generalize World.alloc _ _ = w0 at H0 ⊢
  obtain ⟨c0, c1, c2, c3, c4, cl⟩ := id H0.out.1.1
  obtain ⟨a0, a1, a2, a3, al⟩ := id H0.out.1.2.1
  go_wp2_with fail
  refine (HH.out _ H0.out.1).mono ?_
  rintro e w1 ⟨g, c, rfl, hown, hb⟩
  have HB := Lib.hid hb
  have HO := Lib.hid hown
  clear c0 c1 c2 c3 c4 cl a0 a1 a2 a3 al HH hb hown
  go_wp2_with (first
    | ((with_reducible refine wpList_pool_alloc (o := ⟨_, .alloc _, _, _, _, _⟩) rfl rfl ?_); intro w2 x2 hb2 hs2; clear hs2)
    | ((with_reducible refine wpList_pool_store (o := ⟨none, .store _ _ _, _, _, _, _⟩) rfl _ _ rfl _ (some ⟨g, 0, none⟩) none n 0 c 0 (sH s 0 (conv + j) h0) (sH s 1 (conv + j) h1) (sH s 2 (conv + j) h2) 0 0 0 rfl rfl x2 ?_); intro w3 x3 hg3; have H3 := Lib.hid (HdSt.made H0.out.1 H0.out.2.2 (show w.heap.size + 1 < w.heap.size + 1 + 1 + 1 by omega) HB.out HO.out HP.out hb2 x2 x3 hg3); have HA3 := Lib.hid (((H0.out.2.1.on HB.out).on hb2).grown hg3 (by have := H0.out.2.1.lt; have := HB.out.size; omega)); clear x2 x3 hb2 hg3; generalize w1.heap.size = b at H3 ⊢; obtain ⟨b0, b1, b2, b3, bl⟩ := H3.out.q.pool; obtain ⟨c0, c1, c2, c3, c4, cl⟩ := id H3.out.gp.1)
    | fail)
  refine (HRo.out _ _ _ (Rd.own H3.out.own)).mono ?_
  rintro e w4 ⟨rfl, hb4⟩
  have H4 := Lib.hid (H3.out.on hb4)
  have HA4 := Lib.hid (HA3.out.on hb4)
  clear c0 c1 c2 c3 c4 cl b0 b1 b2 b3 bl hb4 H3 HA3 HRo
  obtain ⟨c0, c1, c2, c3, c4, cl⟩ := id H4.out.gp.1
  obtain ⟨b0, b1, b2, b3, bl⟩ := H4.out.q.pool
  have bh := (H4.out.q.pool.head HS.out).trans (by rw [hd_sH HS.out])
  have pc := (H4.out.own.cellAt j (by have := HJ.out; omega)).trans HPc.out
  go_wp2_with (first
    | ((with_reducible refine wpList_pat_alloc (o := ⟨_, .alloc _, _, _, _, _⟩) rfl rfl ?_); intro w5 x5 hb5 hs5; clear hs5)
    | ((with_reducible refine wpList_pat_store (o := ⟨none, .store _ _ _, _, _, _, _⟩) rfl _ _ rfl _ (conv + j) x 0 0 rfl rfl x5 ?_); intro w6 x6 hg6; have H6 := Lib.hid (H4.out.on (hb5.grown hg6 hb5.size (fun k hk => by injection hk with hk; omega))); have HA6 := Lib.hid (HA4.out.on (hb5.grown hg6 hb5.size (fun k hk => by injection hk with hk; omega))); have HV6 := Lib.hid x6; have HV := Lib.hid H4.out.hg.2; have HVb := Lib.hid H4.out.q.lt; have HVa := Lib.hid HA4.out.lt; have HVr := Lib.hid H4.out.rs.lt; clear c0 c1 c2 c3 c4 cl b0 b1 b2 b3 bl bh pc x5 x6 hb5 hg6 H4 HA4; generalize w4.heap.size = ba at HV6 HV HVb HVa HVr ⊢; have H7 := Lib.hid (H6.out.point HP.out j (x + 1)); obtain ⟨b0, b1, b2, b3, bl⟩ := H6.out.q.pool; have pc := (H6.out.own.cellAt j (by have := HJ.out; omega)).trans HPc.out; have pf := H6.out.own.frozenAt j; obtain ⟨c0, c1, c2, c3, c4, cl⟩ := id H7.out.gp.1; obtain ⟨e0, e1, e2, e3, el⟩ := H7.out.q.pool; have pd := (H7.out.own.cellAt j (by have := HJ.out; omega)).trans HPc2.out)
    | fail)
  have HA7 := Lib.hid (HA6.out.grown (H6.out.own.stored j (.int .i64 (x + 1))).2 (by have := H6.out.hg; have := H6.out.hr; omega))
  have HV7 := Lib.hid (HV6.out.grown (H6.out.own.stored j (.int .i64 (x + 1))).2 (by have := HV.out; omega))
  clear b0 b1 b2 b3 bl pc pf H6 HA6 HV6
  generalize World.setCell _ _ _ = w7 at H7 HA7 HV7 c0 c1 c2 c3 c4 cl e0 e1 e2 e3 el pd ⊢
  go_quiet (fail)
  have H8 := Lib.hid (H7.out.drewN nq)
  have HA8 := Lib.hid (HA7.out.draws nq)
  have HV8 := Lib.hid (HV7.out.draws nq)
  clear c0 c1 c2 c3 c4 cl e0 e1 e2 e3 el pd H7 HA7 HV7
  generalize w7.drewN nq = w8 at H8 HA8 HV8 ⊢
  have H9 := H8
  have HA9 := HA8
  have HV9 := HV8
  clear H8 HA8 HV8
  generalize w8 = w9 at H9 HA9 HV9 ⊢
  go_wp2
  have H9 := Lib.hid (HdSt.drew H9.out)
  have HA9 := Lib.hid (Box.drew1 HA9.out)
  have HV9 := Lib.hid (Box.drew1 HV9.out)
  have SO := Lib.hid fun w' (hq : Box w' b 27 (plcs (some ⟨g, 0, none⟩) n c (sH s 0 (conv + j) h0) (sH s 1 (conv + j) h1) (sH s 2 (conv + j) h2))) (hv : Box w' ba 48 (pacl (conv + j) x)) => (⟨hq.cell 0, hq.cell 1, hq.cell 2, hq.cell 3, hv.cell 0, hv.cell 1⟩ :
    w'.cell? ⟨b, 0, none⟩ = some (.slice (some ⟨g, 0, none⟩) n c) ∧ w'.cell? ⟨b, 1, none⟩ = some (.int .i64 (sH s 0 (conv + j) h0)) ∧ w'.cell? ⟨b, 2, none⟩ = some (.int .i64 (sH s 1 (conv + j) h1)) ∧ w'.cell? ⟨b, 3, none⟩ = some (.int .i64 (sH s 2 (conv + j) h2)) ∧ w'.cell? ⟨ba, 0, none⟩ = some (.int .i64 (conv + j)) ∧ w'.cell? ⟨ba, 1, none⟩ = some (.int .i64 x))
  have hnb : w.heap.size + 1 + 1 + 1 < b := by have := H9.out.hb; have := H9.out.hr; omega
  have Hnb := Lib.hid hnb
  clear hnb
  refine wp_region_held_drew (S := (fun w' => w'.cell? ⟨b, 0, none⟩ = some (.slice (some ⟨g, 0, none⟩) n c) ∧ w'.cell? ⟨b, 1, none⟩ = some (.int .i64 (sH s 0 (conv + j) h0)) ∧ w'.cell? ⟨b, 2, none⟩ = some (.int .i64 (sH s 1 (conv + j) h1)) ∧ w'.cell? ⟨b, 3, none⟩ = some (.int .i64 (sH s 2 (conv + j) h2)) ∧ w'.cell? ⟨ba, 0, none⟩ = some (.int .i64 (conv + j)) ∧ w'.cell? ⟨ba, 1, none⟩ = some (.int .i64 x))) (by kernel_rfl) (SO.out _ H9.out.q HV9.out) (fun hHeld => ?_)
  refine wpAnyH_take (i := 0) (oi := ⟨some 66, .load _ _, _, _, _, _⟩) (v := .agg #[.int .i64 (conv + j), .int .i64 x]) rfl (by kernel_rfl) (by kernel_rfl) (by kernel_rfl) (fun _ _ _ h => h) (Or.inl ⟨by rfl, ?hy0⟩) (by assumption) ?rest0
  case hy0 =>
    intro w hSw
    try dsimp only at hSw
    go_simp
    try with_reducible rfl
  try simp only [Act.put, List.setIfInBounds_toArray, List.set_cons_zero, List.set_cons_succ]
  refine wpAnyH_take (i := 1) (oi := ⟨some 67, .load _ _, _, _, _, _⟩) (v := ppv (some ⟨g, 0, none⟩) n c (sH s 0 (conv + j) h0) (sH s 1 (conv + j) h1) (sH s 2 (conv + j) h2)) rfl (by kernel_rfl) (by kernel_rfl) (by kernel_rfl) (fun _ _ _ h => h) (Or.inl ⟨by rfl, ?hy1⟩) (by assumption) ?rest1
  case hy1 =>
    intro w hSw
    try dsimp only at hSw
    go_simp
    try with_reducible rfl
  try simp only [Act.put, List.setIfInBounds_toArray, List.set_cons_zero, List.set_cons_succ]
  refine wpAnyH_ready (rs := [2]) (by kernel_rfl) (by simp) ?_
  refine AllReadyH.cons (o := ⟨none, .store _ _ _, _, _, _, _⟩) rfl (fun K hK => ?_) AllReadyH.nil
  refine step_pat_store rfl _ _ rfl (w.heap.size + 1 + 1) (conv + j) x 0 0 (by rfl) (by rfl) HA9.out ?_
  intro w10 x10 hg10
  have Q10 := H9.out.q.grown hg10 (by have := Hnb.out; omega)
  have V10 := HV9.out.grown hg10 (by have := HVa.out; omega)
  have HR10 := Lib.hid (H9.out.rs.grown hg10 (by omega))
  have HO10 := Lib.hid (own_grown H9.out.own hg10 (by have := H9.out.hg; have := H9.out.hr; omega))
  have HB10 := Lib.hid (H9.out.gp.2.2.grown hg10 H9.out.gp.2.2.size (fun k hk => by injection hk with hk; omega))
  have HX10 := Lib.hid x10
  clear hHeld
  refine hK.out _ _ (SO.out _ Q10 V10) (fun hHeld => ?_)
  clear hK K
  try simp only [Act.put, List.setIfInBounds_toArray, List.set_cons_zero, List.set_cons_succ]
  refine wpAnyH_ready (rs := [3]) (by kernel_rfl) (by simp) ?_
  refine AllReadyH.cons (o := ⟨none, .store _ _ _, _, _, _, _⟩) rfl (fun K hK => ?_) AllReadyH.nil
  refine step_pool_store rfl _ _ rfl (w.heap.size + 1 + 1 + 1) (some ⟨g, 0, none⟩) none n 0 c 0 (sH s 0 (conv + j) h0) (sH s 1 (conv + j) h1) (sH s 2 (conv + j) h2) 0 0 0 (by rfl) (by rfl) HR10.out ?_
  intro w11 x11 hg11
  have Q11 := Q10.grown hg11 (by have := Hnb.out; omega)
  have V11 := V10.grown hg11 (by have := HVr.out; omega)
  have HF := Lib.hid (HB10.out.grown hg11 HB10.out.size (fun k hk => by injection hk with hk; omega))
  have HO11 := Lib.hid (own_base0 (own_grown HO10.out hg11 (by have := H9.out.hg; have := H9.out.hr; omega)) (by have := H9.out.hr; omega : w.heap.size ≤ w0.heap.size))
  obtain ⟨r0, r1, r2, r3, rl⟩ := Box.pool x11
  obtain ⟨s0, s1⟩ := (HX10.out.grown hg11 (by omega)).at2
  clear hHeld
  refine hK.out _ _ (SO.out _ Q11 V11) (fun hHeld => ?_)
  clear hK K
  try simp only [Act.put, List.setIfInBounds_toArray, List.set_cons_zero, List.set_cons_succ]
  refine wpAnyH_take (i := 4) (oi := ⟨some 8, .assign _, _, _, _, _⟩) (v := .bool true) rfl (by kernel_rfl) (by kernel_rfl) (by kernel_rfl) (fun _ _ _ h => h) (Or.inl ⟨by rfl, ?hy4⟩) (by assumption) ?rest4
  case hy4 =>
    intro w hSw
    try dsimp only at hSw
    go_simp
    try with_reducible rfl
  try simp only [Act.put, List.setIfInBounds_toArray, List.set_cons_zero, List.set_cons_succ]
  refine wpAnyH_done (by kernel_rfl) ?_ _
  try simp only [Act.put, List.setIfInBounds_toArray, List.set_cons_zero, List.set_cons_succ]
  go_wp2
  exact bodyPost_ret (v := .tuple #[.agg #[.int .i64 (conv + j), .int .i64 x], ppv (some ⟨g, 0, none⟩) n c (sH s 0 (conv + j) h0) (sH s 1 (conv + j) h1) (sH s 2 (conv + j) h2), .bool true]) (by simp [results, Try.results29, go_sem, r0, r1, r2, r3, s0, s1]) rfl ⟨g, c, rfl, HO11.out, HF.out⟩
end
end Go.Proofs.Ytbhcemipjfdemaa

/-
  The document's answer for layer 11: Step.
-/
import Derived.Test.YtbhcemipjfdemaaPoR
namespace Go.Proofs.Ytbhcemipjfdemaa
open Go.RowKit Geom Leaf Pol
set_option linter.unusedVariables false

section
variable (conv soft seq size opn : Int) (A : Option Addr) (n cap : Nat) (ps : List Int) (h0 h1 h2 : Int) (s : Nat)
set_option maxRecDepth 100000 in
set_option maxHeartbeats 4000000 in
theorem rpstep_none (w : World) (hm : n ≤ 64) (hn : ps.length = n) (S : Some conv seq size) (hns : (n : Int) = seq) (hs : s < 3) (hr : Rd w w.heap.size A (is ps)) (hh : hd h0 h1 h2 s = 0) (hf : freeX conv ps h0 h1 h2 n = []) :
    Calls Try.prog 30 #[pgv conv soft seq size opn, ppv A n cap h0 h1 h2, .int .i64 s] w fun e w' => e = .returned (.tuple #[.agg #[.int .i64 0, .int .i64 0], ppv A n cap h0 h1 h2, .bool false]) ∧ Below w.heap.size w w' := by
  have H0 := Lib.hid (GP.res2 w conv soft seq size opn A n cap h0 h1 h2)
  have HZ := Lib.hid fun w' (h : GP w w' conv soft seq size opn A n cap h0 h1 h2) => rpzones_any conv soft seq size opn A n cap ps h0 h1 h2 0 w' hm hn S (hr.gp h)
  have hsI : (s : Int) < 3 := by omega
  obtain ⟨c0, c1, c2, c3, c4, cl⟩ := id H0.out.1.1
  obtain ⟨a0, a1, a2, a3, al⟩ := id H0.out.1.2.1
  have ah := (H0.out.1.2.1.head hs).trans (by rw [hh])
  have HNil := Lib.hid hf
  clear hr S hn hs hh hf
  have HZ1 := Lib.hid (HZ.out _ H0.out.1)
  rw [zonF_free] at HZ1
  go_enter Try.func30, Try.ntmps30
  go_wp2_with fail
  generalize World.alloc _ _ = w0 at H0 HZ1 c0 c1 c2 c3 c4 cl a0 a1 a2 a3 al ah ⊢
  refine HZ1.out.mono ?_
  rintro e w1 ⟨V, rfl, hown1, hb1⟩
  have H1 := Lib.hid (And.intro (H0.out.1.below hb1) (And.intro (H0.out.2.1.on hb1) (H0.out.2.2.on hb1)))
  have HO1 := Lib.hid hown1
  have HB1 := Lib.hid hb1
  clear c0 c1 c2 c3 c4 cl a0 a1 a2 a3 al ah hown1 hb1 HZ HZ1
  rw [HNil.out] at HO1
  obtain ⟨A4, c4, rfl⟩ := own_slice HO1.out
  go_wp2_with fail
  generalize hwd : w1 = w9 at H1 ⊢
  clear hwd
  have H9 := Lib.hid (And.intro H1.out.1.drew (And.intro (Box.drew1 H1.out.2.1) (Box.drew1 H1.out.2.2)))
  have SO := Lib.hid fun w' (hq : GP w w' conv soft seq size opn A n cap h0 h1 h2) => (⟨hq.2.1.1, hq.2.1.2.1, hq.2.1.2.2.1, hq.2.1.2.2.2.1⟩ :
    w'.cell? ⟨w.heap.size + 1, 0, none⟩ = some (.slice A n cap) ∧ w'.cell? ⟨w.heap.size + 1, 1, none⟩ = some (.int .i64 h0) ∧ w'.cell? ⟨w.heap.size + 1, 2, none⟩ = some (.int .i64 h1) ∧ w'.cell? ⟨w.heap.size + 1, 3, none⟩ = some (.int .i64 h2))
  clear H1
  refine wp_region_held_drew (S := (fun w' => w'.cell? ⟨w.heap.size + 1, 0, none⟩ = some (.slice A n cap) ∧ w'.cell? ⟨w.heap.size + 1, 1, none⟩ = some (.int .i64 h0) ∧ w'.cell? ⟨w.heap.size + 1, 2, none⟩ = some (.int .i64 h1) ∧ w'.cell? ⟨w.heap.size + 1, 3, none⟩ = some (.int .i64 h2))) (by kernel_rfl) (SO.out _ H9.out.1) (fun hHeld => ?_)
  refine wpAnyH_take (i := 0) (oi := ⟨some 25, .build _ _, _, _, _, _⟩) (v := .agg #[.int .i64 0, .int .i64 0]) rfl (by kernel_rfl) (by kernel_rfl) (by kernel_rfl) (fun _ _ _ h => h) (Or.inl ⟨by rfl, ?hy0⟩) (by assumption) ?rest0
  case hy0 =>
    intro w hSw
    try dsimp only at hSw
    go_simp
    try with_reducible rfl
  try simp only [Act.put, List.setIfInBounds_toArray, List.set_cons_zero, List.set_cons_succ]
  refine wpAnyH_take (i := 1) (oi := ⟨some 26, .load _ _, _, _, _, _⟩) (v := ppv A n cap h0 h1 h2) rfl (by kernel_rfl) (by kernel_rfl) (by kernel_rfl) (fun _ _ _ h => h) (Or.inl ⟨by rfl, ?hy1⟩) (by assumption) ?rest1
  case hy1 =>
    intro w hSw
    try dsimp only at hSw
    go_simp
    try with_reducible rfl
  try simp only [Act.put, List.setIfInBounds_toArray, List.set_cons_zero, List.set_cons_succ]
  refine wpAnyH_ready (rs := [2]) (by kernel_rfl) (by simp) ?_
  refine AllReadyH.cons (o := ⟨none, .store _ _ _, _, _, _, _⟩) rfl (fun K hK => ?_) AllReadyH.nil
  refine step_pat_store rfl _ _ rfl (w.heap.size + 1 + 1) 0 0 0 0 (by rfl) (by rfl) H9.out.2.1 ?_
  intro w10 x10 hg10
  have Q10 := H9.out.1.grown hg10 (by omega)
  have HR10 := Lib.hid (H9.out.2.2.grown hg10 (by omega))
  have HX10 := Lib.hid x10
  clear hHeld
  refine hK.out _ _ (SO.out _ Q10) (fun hHeld => ?_)
  clear hK K
  try simp only [Act.put, List.setIfInBounds_toArray, List.set_cons_zero, List.set_cons_succ]
  refine wpAnyH_ready (rs := [3]) (by kernel_rfl) (by simp) ?_
  refine AllReadyH.cons (o := ⟨none, .store _ _ _, _, _, _, _⟩) rfl (fun K hK => ?_) AllReadyH.nil
  refine step_pool_store rfl _ _ rfl (w.heap.size + 1 + 1 + 1) A none n 0 cap 0 h0 h1 h2 0 0 0 (by rfl) (by rfl) HR10.out ?_
  intro w11 x11 hg11
  have Q11 := Q10.grown hg11 (by omega)
  have HF := Lib.hid Q11.2.2
  obtain ⟨r0, r1, r2, r3, rl⟩ := Box.pool x11
  obtain ⟨s0, s1⟩ := (HX10.out.grown hg11 (by omega)).at2
  clear hHeld
  refine hK.out _ _ (SO.out _ Q11) (fun hHeld => ?_)
  clear hK K
  try simp only [Act.put, List.setIfInBounds_toArray, List.set_cons_zero, List.set_cons_succ]
  refine wpAnyH_take (i := 4) (oi := ⟨some 8, .assign _, _, _, _, _⟩) (v := .bool false) rfl (by kernel_rfl) (by kernel_rfl) (by kernel_rfl) (fun _ _ _ h => h) (Or.inl ⟨by rfl, ?hy4⟩) (by assumption) ?rest4
  case hy4 =>
    intro w hSw
    try dsimp only at hSw
    go_simp
    try with_reducible rfl
  try simp only [Act.put, List.setIfInBounds_toArray, List.set_cons_zero, List.set_cons_succ]
  refine wpAnyH_done (by kernel_rfl) ?_ _
  try simp only [Act.put, List.setIfInBounds_toArray, List.set_cons_zero, List.set_cons_succ]
  go_wp2
  exact bodyPost_ret (v := .tuple #[.agg #[.int .i64 0, .int .i64 0], ppv A n cap h0 h1 h2, .bool false]) (by simp [results, Try.results30, go_sem, r0, r1, r2, r3, s0, s1]) rfl ⟨rfl, HF.out⟩
set_option maxRecDepth 100000 in
set_option maxHeartbeats 4000000 in
theorem rpstep_head_full (j : Nat) (x : Int) (w : World) (hm : n ≤ 64) (hn : ps.length = n) (S : Some conv seq size) (hns : (n : Int) = seq) (hs : s < 3) (hr : Rd w w.heap.size A (is ps)) (hh : hd h0 h1 h2 s = conv + j) (hj : j < n) (hx : ps.getD j 0 = x) (hx0 : 0 ≤ x) (hx1 : x < size) (hfu : x + 1 = size) :
    Calls Try.prog 30 #[pgv conv soft seq size opn, ppv A n cap h0 h1 h2, .int .i64 s] w fun e w' => ∃ A' c', e = .returned (.tuple #[.agg #[.int .i64 (conv + j), .int .i64 x], ppv A' n c' (sH s 0 0 h0) (sH s 1 0 h1) (sH s 2 0 h2), .bool true]) ∧ w'.ownsRow w.heap.size 3 1 (.slice A' n c') n (is (ps.set j (x + 1))) ∧ Below w.heap.size w w' := by
  have H0 := Lib.hid (GP.res2 w conv soft seq size opn A n cap h0 h1 h2)
  have HZ := Lib.hid fun w' (h : GP w w' conv soft seq size opn A n cap h0 h1 h2) => rpzones_any conv soft seq size opn A n cap ps h0 h1 h2 0 w' hm hn S (hr.gp h)
  have hsI : (s : Int) < 3 := by omega
  have hp : 0 < n := by omega
  have HW := Lib.hid fun w' (h : GP w w' conv soft seq size opn A n cap h0 h1 h2) => rpwith_any conv soft seq size opn A n cap ps h0 h1 h2 j (x + 1) w' hm hp hn S (by omega) (hr.gp h)
  have HP := Lib.hid hp
  have HS := Lib.hid hs
  have HN := Lib.hid hn
  have HJ := Lib.hid hj
  have HX := Lib.hid hx
  have HR := Lib.hid hr
  have hjI : (j : Int) < (n : Int) := by omega
  have hw1 := IntWalk.i64_in (x + 1) (by have := S.2.2.2.2; omega)
  have hw2 : IntKind.i64.wrap (conv + (j : Int) - conv) = (j : Int) := by rw [show conv + (j : Int) - conv = j by omega]; exact IntWalk.i64_in _ (by omega)
  have hq : (x + 1 == size) = true := by rw [beq_iff_eq]; exact hfu
  obtain ⟨c0, c1, c2, c3, c4, cl⟩ := id H0.out.1.1
  obtain ⟨a0, a1, a2, a3, al⟩ := id H0.out.1.2.1
  have ah := (H0.out.1.2.1.head hs).trans (by rw [hh])
  have hz0 : (conv + (j : Int) == 0) = false := by rw [beq_eq_false_iff_ne]; have := S.1; omega
  obtain ⟨ad, hA, _, pc⟩ := (Rd.gp HR.out H0.out.1).point (k := j) (by rw [HN.out]; exact HJ.out)
  subst hA
  rw [HX.out] at pc
  clear hr S hn hs hh hj hx hx0 hx1 hfu hp HZ
  go_enter Try.func30, Try.ntmps30
  go_wp2_with fail
  generalize World.alloc _ _ = w1 at H0 c0 c1 c2 c3 c4 cl a0 a1 a2 a3 al ah pc ⊢
  have H1 := H0
  have HBw := Lib.hid H0.out.1.2.2.size
  clear H0
  refine (HW.out _ H1.out.1).mono ?_
  rintro e w2 ⟨A3, cp3, rfl, hown, hb⟩
  obtain ⟨g, rfl, hg3, hg3'⟩ := own_at hown HP.out
  have HO2 := Lib.hid hown
  have HB2 := Lib.hid hb
  clear c0 c1 c2 c3 c4 cl a0 a1 a2 a3 al pc hown hb hg3 hg3' HW ah
  go_wp2_with (first
    | ((with_reducible refine wpList_pool_alloc (o := ⟨_, .alloc _, _, _, _, _⟩) rfl rfl ?_); intro w3 x3 hb3 hs3; clear hs3)
    | ((with_reducible refine wpList_pool_store (o := ⟨none, .store _ _ _, _, _, _, _⟩) rfl _ _ rfl _ (some ⟨g, 0, none⟩) none n 0 cp3 0 h0 h1 h2 0 0 0 rfl rfl x3 ?_); intro w4 x4 hg4; have H4 := Lib.hid (HdSt.made H1.out.1 H1.out.2.2 (show w.heap.size + 1 < w.heap.size + 1 + 1 + 1 by omega) HB2.out HO2.out HP.out hb3 x3 x4 hg4); have HA4 := Lib.hid (((H1.out.2.1.on HB2.out).on hb3).grown hg4 (by have := H1.out.2.1.lt; have := HB2.out.size; omega)); have H5 := Lib.hid (H4.out.head HP.out HS.out (conv + j)); have HA5 := Lib.hid (HA4.out.grown (pgrown_cell w4 ⟨w2.heap.size, 1 + s, none⟩ (.int .i64 (conv + j))) (show w.heap.size + 1 + 1 ≠ w2.heap.size by have := H1.out.2.1.lt; have := HB2.out.size; omega)); have bh := H4.out.q.pool.head HS.out; have bf := H4.out.q.frozen (1 + s); clear x3 x4 hb3 hg4 HA4; obtain ⟨c0, c1, c2, c3, c4, cl⟩ := id H5.out.gp.1; obtain ⟨e0, e1, e2, e3, el⟩ := H5.out.q.pool; have eh := (H5.out.q.pool.head HS.out); rw [hd_sH HS.out] at eh; have ef := H5.out.q.frozen (1 + s))
    | fail)
  have H6 := H5.out.head HP.out HS.out 0
  rw [sH_twice, sH_twice, sH_twice] at H6
  have H6 := Lib.hid H6
  have HA6 := Lib.hid (HA5.out.grown (pgrown_cell _ ⟨w2.heap.size, 1 + s, none⟩ (.int .i64 0)) (show w.heap.size + 1 + 1 ≠ w2.heap.size by have := H1.out.2.1.lt; have := HB2.out.size; omega))
  clear c0 c1 c2 c3 c4 cl e0 e1 e2 e3 el eh ef bh bf H4 H5 HA5
  have Hwb := Lib.hid (Nat.le_trans HBw.out (Nat.le_refl w1.heap.size))
  generalize World.setCell _ _ _ = w9 at H6 HA6 ⊢
  have H9 := Lib.hid (HdSt.drew H6.out)
  have HA9 := Lib.hid (Box.drew1 HA6.out)
  clear H6 HA6
  generalize w2.heap.size = b at H9 ⊢
  have SO := Lib.hid fun w' (hq : Box w' b 27 (plcs (some ⟨g, 0, none⟩) n cp3 (sH s 0 0 h0) (sH s 1 0 h1) (sH s 2 0 h2))) => (⟨hq.cell 0, hq.cell 1, hq.cell 2, hq.cell 3⟩ :
    w'.cell? ⟨b, 0, none⟩ = some (.slice (some ⟨g, 0, none⟩) n cp3) ∧ w'.cell? ⟨b, 1, none⟩ = some (.int .i64 (sH s 0 0 h0)) ∧ w'.cell? ⟨b, 2, none⟩ = some (.int .i64 (sH s 1 0 h1)) ∧ w'.cell? ⟨b, 3, none⟩ = some (.int .i64 (sH s 2 0 h2)))
  have Hnb := Lib.hid (show w.heap.size + 1 + 1 + 1 < b by have := H9.out.hb; have := H9.out.hr; omega)
  refine wp_region_held_drew (S := (fun w' => w'.cell? ⟨b, 0, none⟩ = some (.slice (some ⟨g, 0, none⟩) n cp3) ∧ w'.cell? ⟨b, 1, none⟩ = some (.int .i64 (sH s 0 0 h0)) ∧ w'.cell? ⟨b, 2, none⟩ = some (.int .i64 (sH s 1 0 h1)) ∧ w'.cell? ⟨b, 3, none⟩ = some (.int .i64 (sH s 2 0 h2)))) (by kernel_rfl) (SO.out _ H9.out.q) (fun hHeld => ?_)
  refine wpAnyH_take (i := 0) (oi := ⟨some 56, .move _, _, _, _, _⟩) (v := .int .i64 (conv + j)) rfl (by kernel_rfl) (by kernel_rfl) (by kernel_rfl) (fun _ _ _ h => h) (Or.inl ⟨by rfl, ?hy0⟩) (by assumption) ?rest0
  case hy0 =>
    intro w hSw
    try dsimp only at hSw
    go_simp
    try with_reducible rfl
  try simp only [Act.put, List.setIfInBounds_toArray, List.set_cons_zero, List.set_cons_succ]
  refine wpAnyH_take (i := 1) (oi := ⟨some 57, .move _, _, _, _, _⟩) (v := .int .i64 x) rfl (by kernel_rfl) (by kernel_rfl) (by kernel_rfl) (fun _ _ _ h => h) (Or.inl ⟨by rfl, ?hy1⟩) (by assumption) ?rest1
  case hy1 =>
    intro w hSw
    try dsimp only at hSw
    go_simp
    try with_reducible rfl
  try simp only [Act.put, List.setIfInBounds_toArray, List.set_cons_zero, List.set_cons_succ]
  refine wpAnyH_take (i := 2) (oi := ⟨some 58, .build _ _, _, _, _, _⟩) (v := .agg #[.int .i64 (conv + j), .int .i64 x]) rfl (by kernel_rfl) (by kernel_rfl) (by kernel_rfl) (fun _ _ _ h => h) (Or.inl ⟨by rfl, ?hy2⟩) (by assumption) ?rest2
  case hy2 =>
    intro w hSw
    try dsimp only at hSw
    go_simp
    try with_reducible rfl
  try simp only [Act.put, List.setIfInBounds_toArray, List.set_cons_zero, List.set_cons_succ]
  refine wpAnyH_take (i := 3) (oi := ⟨some 59, .load _ _, _, _, _, _⟩) (v := ppv (some ⟨g, 0, none⟩) n cp3 (sH s 0 0 h0) (sH s 1 0 h1) (sH s 2 0 h2)) rfl (by kernel_rfl) (by kernel_rfl) (by kernel_rfl) (fun _ _ _ h => h) (Or.inl ⟨by rfl, ?hy3⟩) (by assumption) ?rest3
  case hy3 =>
    intro w hSw
    try dsimp only at hSw
    go_simp
    try with_reducible rfl
  try simp only [Act.put, List.setIfInBounds_toArray, List.set_cons_zero, List.set_cons_succ]
  refine wpAnyH_ready (rs := [4]) (by kernel_rfl) (by simp) ?_
  refine AllReadyH.cons (o := ⟨none, .store _ _ _, _, _, _, _⟩) rfl (fun K hK => ?_) AllReadyH.nil
  refine step_pat_store rfl _ _ rfl (w.heap.size + 1 + 1) (conv + j) x 0 0 (by rfl) (by rfl) HA9.out ?_
  intro w10 x10 hg10
  have Q10 := H9.out.q.grown hg10 (by have := Hnb.out; omega)
  have HR10 := Lib.hid (H9.out.rs.grown hg10 (by omega))
  have HO10 := Lib.hid (own_grown H9.out.own hg10 (by have := H9.out.hg; have := H9.out.hr; omega))
  have HB10 := Lib.hid (H9.out.gp.2.2.grown hg10 H9.out.gp.2.2.size (fun k hk => by injection hk with hk; omega))
  have HX10 := Lib.hid x10
  clear hHeld
  refine hK.out _ _ (SO.out _ Q10) (fun hHeld => ?_)
  clear hK K
  try simp only [Act.put, List.setIfInBounds_toArray, List.set_cons_zero, List.set_cons_succ]
  refine wpAnyH_ready (rs := [5]) (by kernel_rfl) (by simp) ?_
  refine AllReadyH.cons (o := ⟨none, .store _ _ _, _, _, _, _⟩) rfl (fun K hK => ?_) AllReadyH.nil
  refine step_pool_store rfl _ _ rfl (w.heap.size + 1 + 1 + 1) (some ⟨g, 0, none⟩) none n 0 cp3 0 (sH s 0 0 h0) (sH s 1 0 h1) (sH s 2 0 h2) 0 0 0 (by rfl) (by rfl) HR10.out ?_
  intro w11 x11 hg11
  have Q11 := Q10.grown hg11 (by have := Hnb.out; omega)
  have HF := Lib.hid (HB10.out.grown hg11 HB10.out.size (fun k hk => by injection hk with hk; omega))
  have HO11 := Lib.hid (own_base0 (own_grown HO10.out hg11 (by have := H9.out.hg; have := H9.out.hr; omega)) HBw.out)
  obtain ⟨r0, r1, r2, r3, rl⟩ := Box.pool x11
  obtain ⟨s0, s1⟩ := (HX10.out.grown hg11 (by omega)).at2
  clear hHeld
  refine hK.out _ _ (SO.out _ Q11) (fun hHeld => ?_)
  clear hK K
  try simp only [Act.put, List.setIfInBounds_toArray, List.set_cons_zero, List.set_cons_succ]
  refine wpAnyH_take (i := 6) (oi := ⟨some 8, .assign _, _, _, _, _⟩) (v := .bool true) rfl (by kernel_rfl) (by kernel_rfl) (by kernel_rfl) (fun _ _ _ h => h) (Or.inl ⟨by rfl, ?hy6⟩) (by assumption) ?rest6
  case hy6 =>
    intro w hSw
    try dsimp only at hSw
    go_simp
    try with_reducible rfl
  try simp only [Act.put, List.setIfInBounds_toArray, List.set_cons_zero, List.set_cons_succ]
  refine wpAnyH_done (by kernel_rfl) ?_ _
  try simp only [Act.put, List.setIfInBounds_toArray, List.set_cons_zero, List.set_cons_succ]
  go_wp2
  exact bodyPost_ret (v := .tuple #[.agg #[.int .i64 (conv + j), .int .i64 x], ppv (some ⟨g, 0, none⟩) n cp3 (sH s 0 0 h0) (sH s 1 0 h1) (sH s 2 0 h2), .bool true]) (by simp [results, Try.results30, go_sem, r0, r1, r2, r3, s0, s1]) rfl ⟨_, cp3, rfl, HO11.out, HF.out⟩
set_option maxRecDepth 100000 in
set_option maxHeartbeats 4000000 in
theorem rpstep_head_more (j : Nat) (x : Int) (w : World) (hm : n ≤ 64) (hn : ps.length = n) (S : Some conv seq size) (hns : (n : Int) = seq) (hs : s < 3) (hr : Rd w w.heap.size A (is ps)) (hh : hd h0 h1 h2 s = conv + j) (hj : j < n) (hx : ps.getD j 0 = x) (hx0 : 0 ≤ x) (hx1 : x < size) (hfu : x + 1 ≠ size) :
    Calls Try.prog 30 #[pgv conv soft seq size opn, ppv A n cap h0 h1 h2, .int .i64 s] w fun e w' => ∃ A' c', e = .returned (.tuple #[.agg #[.int .i64 (conv + j), .int .i64 x], ppv A' n c' (sH s 0 (conv + j) h0) (sH s 1 (conv + j) h1) (sH s 2 (conv + j) h2), .bool true]) ∧ w'.ownsRow w.heap.size 3 1 (.slice A' n c') n (is (ps.set j (x + 1))) ∧ Below w.heap.size w w' := by
  have H0 := Lib.hid (GP.res2 w conv soft seq size opn A n cap h0 h1 h2)
  have HZ := Lib.hid fun w' (h : GP w w' conv soft seq size opn A n cap h0 h1 h2) => rpzones_any conv soft seq size opn A n cap ps h0 h1 h2 0 w' hm hn S (hr.gp h)
  have hsI : (s : Int) < 3 := by omega
  have hp : 0 < n := by omega
  have HW := Lib.hid fun w' (h : GP w w' conv soft seq size opn A n cap h0 h1 h2) => rpwith_any conv soft seq size opn A n cap ps h0 h1 h2 j (x + 1) w' hm hp hn S (by omega) (hr.gp h)
  have HP := Lib.hid hp
  have HS := Lib.hid hs
  have HN := Lib.hid hn
  have HJ := Lib.hid hj
  have HX := Lib.hid hx
  have HR := Lib.hid hr
  have hjI : (j : Int) < (n : Int) := by omega
  have hw1 := IntWalk.i64_in (x + 1) (by have := S.2.2.2.2; omega)
  have hw2 : IntKind.i64.wrap (conv + (j : Int) - conv) = (j : Int) := by rw [show conv + (j : Int) - conv = j by omega]; exact IntWalk.i64_in _ (by omega)
  have hq : (x + 1 == size) = false := by rw [beq_eq_false_iff_ne]; exact hfu
  obtain ⟨c0, c1, c2, c3, c4, cl⟩ := id H0.out.1.1
  obtain ⟨a0, a1, a2, a3, al⟩ := id H0.out.1.2.1
  have ah := (H0.out.1.2.1.head hs).trans (by rw [hh])
  have hz0 : (conv + (j : Int) == 0) = false := by rw [beq_eq_false_iff_ne]; have := S.1; omega
  obtain ⟨ad, hA, _, pc⟩ := (Rd.gp HR.out H0.out.1).point (k := j) (by rw [HN.out]; exact HJ.out)
  subst hA
  rw [HX.out] at pc
  clear hr S hn hs hh hj hx hx0 hx1 hfu hp HZ
  go_enter Try.func30, Try.ntmps30
  go_wp2_with fail
  generalize World.alloc _ _ = w1 at H0 c0 c1 c2 c3 c4 cl a0 a1 a2 a3 al ah pc ⊢
  have H1 := H0
  have HBw := Lib.hid H0.out.1.2.2.size
  clear H0
  refine (HW.out _ H1.out.1).mono ?_
  rintro e w2 ⟨A3, cp3, rfl, hown, hb⟩
  obtain ⟨g, rfl, hg3, hg3'⟩ := own_at hown HP.out
  have HO2 := Lib.hid hown
  have HB2 := Lib.hid hb
  clear c0 c1 c2 c3 c4 cl a0 a1 a2 a3 al pc hown hb hg3 hg3' HW ah
  go_wp2_with (first
    | ((with_reducible refine wpList_pool_alloc (o := ⟨_, .alloc _, _, _, _, _⟩) rfl rfl ?_); intro w3 x3 hb3 hs3; clear hs3)
    | ((with_reducible refine wpList_pool_store (o := ⟨none, .store _ _ _, _, _, _, _⟩) rfl _ _ rfl _ (some ⟨g, 0, none⟩) none n 0 cp3 0 h0 h1 h2 0 0 0 rfl rfl x3 ?_); intro w4 x4 hg4; have H4 := Lib.hid (HdSt.made H1.out.1 H1.out.2.2 (show w.heap.size + 1 < w.heap.size + 1 + 1 + 1 by omega) HB2.out HO2.out HP.out hb3 x3 x4 hg4); have HA4 := Lib.hid (((H1.out.2.1.on HB2.out).on hb3).grown hg4 (by have := H1.out.2.1.lt; have := HB2.out.size; omega)); have H5 := Lib.hid (H4.out.head HP.out HS.out (conv + j)); have HA5 := Lib.hid (HA4.out.grown (pgrown_cell w4 ⟨w2.heap.size, 1 + s, none⟩ (.int .i64 (conv + j))) (show w.heap.size + 1 + 1 ≠ w2.heap.size by have := H1.out.2.1.lt; have := HB2.out.size; omega)); have bh := H4.out.q.pool.head HS.out; have bf := H4.out.q.frozen (1 + s); clear x3 x4 hb3 hg4 HA4; obtain ⟨c0, c1, c2, c3, c4, cl⟩ := id H5.out.gp.1; obtain ⟨e0, e1, e2, e3, el⟩ := H5.out.q.pool; have eh := (H5.out.q.pool.head HS.out); rw [hd_sH HS.out] at eh; have ef := H5.out.q.frozen (1 + s))
    | fail)
  have H6 := H5
  have HA6 := HA5
  clear c0 c1 c2 c3 c4 cl e0 e1 e2 e3 el eh ef bh bf H4 H5 HA5
  have Hwb := Lib.hid (Nat.le_trans HBw.out (Nat.le_refl w1.heap.size))
  generalize World.setCell _ _ _ = w9 at H6 HA6 ⊢
  have H9 := Lib.hid (HdSt.drew H6.out)
  have HA9 := Lib.hid (Box.drew1 HA6.out)
  clear H6 HA6
  generalize w2.heap.size = b at H9 ⊢
  have SO := Lib.hid fun w' (hq : Box w' b 27 (plcs (some ⟨g, 0, none⟩) n cp3 (sH s 0 (conv + j) h0) (sH s 1 (conv + j) h1) (sH s 2 (conv + j) h2))) => (⟨hq.cell 0, hq.cell 1, hq.cell 2, hq.cell 3⟩ :
    w'.cell? ⟨b, 0, none⟩ = some (.slice (some ⟨g, 0, none⟩) n cp3) ∧ w'.cell? ⟨b, 1, none⟩ = some (.int .i64 (sH s 0 (conv + j) h0)) ∧ w'.cell? ⟨b, 2, none⟩ = some (.int .i64 (sH s 1 (conv + j) h1)) ∧ w'.cell? ⟨b, 3, none⟩ = some (.int .i64 (sH s 2 (conv + j) h2)))
  have Hnb := Lib.hid (show w.heap.size + 1 + 1 + 1 < b by have := H9.out.hb; have := H9.out.hr; omega)
  refine wp_region_held_drew (S := (fun w' => w'.cell? ⟨b, 0, none⟩ = some (.slice (some ⟨g, 0, none⟩) n cp3) ∧ w'.cell? ⟨b, 1, none⟩ = some (.int .i64 (sH s 0 (conv + j) h0)) ∧ w'.cell? ⟨b, 2, none⟩ = some (.int .i64 (sH s 1 (conv + j) h1)) ∧ w'.cell? ⟨b, 3, none⟩ = some (.int .i64 (sH s 2 (conv + j) h2)))) (by kernel_rfl) (SO.out _ H9.out.q) (fun hHeld => ?_)
  refine wpAnyH_take (i := 0) (oi := ⟨some 56, .move _, _, _, _, _⟩) (v := .int .i64 (conv + j)) rfl (by kernel_rfl) (by kernel_rfl) (by kernel_rfl) (fun _ _ _ h => h) (Or.inl ⟨by rfl, ?hy0⟩) (by assumption) ?rest0
  case hy0 =>
    intro w hSw
    try dsimp only at hSw
    go_simp
    try with_reducible rfl
  try simp only [Act.put, List.setIfInBounds_toArray, List.set_cons_zero, List.set_cons_succ]
  refine wpAnyH_take (i := 1) (oi := ⟨some 57, .move _, _, _, _, _⟩) (v := .int .i64 x) rfl (by kernel_rfl) (by kernel_rfl) (by kernel_rfl) (fun _ _ _ h => h) (Or.inl ⟨by rfl, ?hy1⟩) (by assumption) ?rest1
  case hy1 =>
    intro w hSw
    try dsimp only at hSw
    go_simp
    try with_reducible rfl
  try simp only [Act.put, List.setIfInBounds_toArray, List.set_cons_zero, List.set_cons_succ]
  refine wpAnyH_take (i := 2) (oi := ⟨some 58, .build _ _, _, _, _, _⟩) (v := .agg #[.int .i64 (conv + j), .int .i64 x]) rfl (by kernel_rfl) (by kernel_rfl) (by kernel_rfl) (fun _ _ _ h => h) (Or.inl ⟨by rfl, ?hy2⟩) (by assumption) ?rest2
  case hy2 =>
    intro w hSw
    try dsimp only at hSw
    go_simp
    try with_reducible rfl
  try simp only [Act.put, List.setIfInBounds_toArray, List.set_cons_zero, List.set_cons_succ]
  refine wpAnyH_take (i := 3) (oi := ⟨some 59, .load _ _, _, _, _, _⟩) (v := ppv (some ⟨g, 0, none⟩) n cp3 (sH s 0 (conv + j) h0) (sH s 1 (conv + j) h1) (sH s 2 (conv + j) h2)) rfl (by kernel_rfl) (by kernel_rfl) (by kernel_rfl) (fun _ _ _ h => h) (Or.inl ⟨by rfl, ?hy3⟩) (by assumption) ?rest3
  case hy3 =>
    intro w hSw
    try dsimp only at hSw
    go_simp
    try with_reducible rfl
  try simp only [Act.put, List.setIfInBounds_toArray, List.set_cons_zero, List.set_cons_succ]
  refine wpAnyH_ready (rs := [4]) (by kernel_rfl) (by simp) ?_
  refine AllReadyH.cons (o := ⟨none, .store _ _ _, _, _, _, _⟩) rfl (fun K hK => ?_) AllReadyH.nil
  refine step_pat_store rfl _ _ rfl (w.heap.size + 1 + 1) (conv + j) x 0 0 (by rfl) (by rfl) HA9.out ?_
  intro w10 x10 hg10
  have Q10 := H9.out.q.grown hg10 (by have := Hnb.out; omega)
  have HR10 := Lib.hid (H9.out.rs.grown hg10 (by omega))
  have HO10 := Lib.hid (own_grown H9.out.own hg10 (by have := H9.out.hg; have := H9.out.hr; omega))
  have HB10 := Lib.hid (H9.out.gp.2.2.grown hg10 H9.out.gp.2.2.size (fun k hk => by injection hk with hk; omega))
  have HX10 := Lib.hid x10
  clear hHeld
  refine hK.out _ _ (SO.out _ Q10) (fun hHeld => ?_)
  clear hK K
  try simp only [Act.put, List.setIfInBounds_toArray, List.set_cons_zero, List.set_cons_succ]
  refine wpAnyH_ready (rs := [5]) (by kernel_rfl) (by simp) ?_
  refine AllReadyH.cons (o := ⟨none, .store _ _ _, _, _, _, _⟩) rfl (fun K hK => ?_) AllReadyH.nil
  refine step_pool_store rfl _ _ rfl (w.heap.size + 1 + 1 + 1) (some ⟨g, 0, none⟩) none n 0 cp3 0 (sH s 0 (conv + j) h0) (sH s 1 (conv + j) h1) (sH s 2 (conv + j) h2) 0 0 0 (by rfl) (by rfl) HR10.out ?_
  intro w11 x11 hg11
  have Q11 := Q10.grown hg11 (by have := Hnb.out; omega)
  have HF := Lib.hid (HB10.out.grown hg11 HB10.out.size (fun k hk => by injection hk with hk; omega))
  have HO11 := Lib.hid (own_base0 (own_grown HO10.out hg11 (by have := H9.out.hg; have := H9.out.hr; omega)) HBw.out)
  obtain ⟨r0, r1, r2, r3, rl⟩ := Box.pool x11
  obtain ⟨s0, s1⟩ := (HX10.out.grown hg11 (by omega)).at2
  clear hHeld
  refine hK.out _ _ (SO.out _ Q11) (fun hHeld => ?_)
  clear hK K
  try simp only [Act.put, List.setIfInBounds_toArray, List.set_cons_zero, List.set_cons_succ]
  refine wpAnyH_take (i := 6) (oi := ⟨some 8, .assign _, _, _, _, _⟩) (v := .bool true) rfl (by kernel_rfl) (by kernel_rfl) (by kernel_rfl) (fun _ _ _ h => h) (Or.inl ⟨by rfl, ?hy6⟩) (by assumption) ?rest6
  case hy6 =>
    intro w hSw
    try dsimp only at hSw
    go_simp
    try with_reducible rfl
  try simp only [Act.put, List.setIfInBounds_toArray, List.set_cons_zero, List.set_cons_succ]
  refine wpAnyH_done (by kernel_rfl) ?_ _
  try simp only [Act.put, List.setIfInBounds_toArray, List.set_cons_zero, List.set_cons_succ]
  go_wp2
  exact bodyPost_ret (v := .tuple #[.agg #[.int .i64 (conv + j), .int .i64 x], ppv (some ⟨g, 0, none⟩) n cp3 (sH s 0 (conv + j) h0) (sH s 1 (conv + j) h1) (sH s 2 (conv + j) h2), .bool true]) (by simp [results, Try.results30, go_sem, r0, r1, r2, r3, s0, s1]) rfl ⟨_, cp3, rfl, HO11.out, HF.out⟩
set_option maxRecDepth 100000 in
set_option maxHeartbeats 4000000 in
theorem rpstep_free_full (j : Nat) (x : Int) (w : World) (hm : n ≤ 64) (hn : ps.length = n) (S : Some conv seq size) (hns : (n : Int) = seq) (hs : s < 3) (hr : Rd w w.heap.size A (is ps)) (hh : hd h0 h1 h2 s = 0) (zs : List Int) (hf : freeX conv ps h0 h1 h2 n = (conv + j) :: zs) (hj : j < n) (hx : ps.getD j 0 = x) (hx0 : 0 ≤ x) (hx1 : x < size) (hfu : x + 1 = size) :
    Calls Try.prog 30 #[pgv conv soft seq size opn, ppv A n cap h0 h1 h2, .int .i64 s] w fun e w' => ∃ A' c', e = .returned (.tuple #[.agg #[.int .i64 (conv + j), .int .i64 x], ppv A' n c' (sH s 0 0 h0) (sH s 1 0 h1) (sH s 2 0 h2), .bool true]) ∧ w'.ownsRow w.heap.size 3 1 (.slice A' n c') n (is (ps.set j (x + 1))) ∧ Below w.heap.size w w' := by
  have H0 := Lib.hid (GP.res2 w conv soft seq size opn A n cap h0 h1 h2)
  have HZ := Lib.hid fun w' (h : GP w w' conv soft seq size opn A n cap h0 h1 h2) => rpzones_any conv soft seq size opn A n cap ps h0 h1 h2 0 w' hm hn S (hr.gp h)
  have hsI : (s : Int) < 3 := by omega
  have hp : 0 < n := by omega
  have HW := Lib.hid fun w' (h : GP w w' conv soft seq size opn A n cap h0 h1 h2) => rpwith_any conv soft seq size opn A n cap ps h0 h1 h2 j (x + 1) w' hm hp hn S (by omega) (hr.gp h)
  have HP := Lib.hid hp
  have HS := Lib.hid hs
  have HN := Lib.hid hn
  have HJ := Lib.hid hj
  have HX := Lib.hid hx
  have HR := Lib.hid hr
  have hjI : (j : Int) < (n : Int) := by omega
  have hw1 := IntWalk.i64_in (x + 1) (by have := S.2.2.2.2; omega)
  have hw2 : IntKind.i64.wrap (conv + (j : Int) - conv) = (j : Int) := by rw [show conv + (j : Int) - conv = j by omega]; exact IntWalk.i64_in _ (by omega)
  have hq : (x + 1 == size) = true := by rw [beq_iff_eq]; exact hfu
  obtain ⟨c0, c1, c2, c3, c4, cl⟩ := id H0.out.1.1
  obtain ⟨a0, a1, a2, a3, al⟩ := id H0.out.1.2.1
  have ah := (H0.out.1.2.1.head hs).trans (by rw [hh])
  have HF0 := Lib.hid hf
  clear hr S hn hs hh hf hj hx hx0 hx1 hfu hp
  have HZ1 := Lib.hid (HZ.out _ H0.out.1)
  rw [zonF_free] at HZ1
  go_enter Try.func30, Try.ntmps30
  go_wp2_with fail
  generalize World.alloc _ _ = w0 at H0 HZ1 c0 c1 c2 c3 c4 cl a0 a1 a2 a3 al ah ⊢
  refine HZ1.out.mono ?_
  rintro e w1 ⟨V, rfl, hown1, hb1⟩
  have H1 := Lib.hid (And.intro (H0.out.1.below hb1) (And.intro (H0.out.2.1.on hb1) (H0.out.2.2.on hb1)))
  have HO1 := Lib.hid hown1
  have HB1 := Lib.hid hb1
  clear c0 c1 c2 c3 c4 cl a0 a1 a2 a3 al ah hown1 hb1 HZ HZ1
  rw [HF0.out] at HO1
  obtain ⟨A4, c4, rfl⟩ := own_slice HO1.out
  obtain ⟨g4, rfl, hg4, hl4⟩ := own_at HO1.out (by simp)
  have v0 : w1.cell? ⟨g4, 0, none⟩ = some (.int .i64 (conv + j)) := HO1.out.cellAt 0 (by simp)
  have hlen : ¬ ((zs.length : Int) + 1 = 0) := by omega
  have hl0 : (0 : Int) < (zs.length : Int) + 1 := by omega
  obtain ⟨c0, c1, c2, c3, c4, cl⟩ := id H1.out.1.1
  obtain ⟨a0, a1, a2, a3, al⟩ := id H1.out.1.2.1
  obtain ⟨ad, hA, _, pc⟩ := (Rd.gp HR.out H1.out.1).point (k := j) (by rw [HN.out]; exact HJ.out)
  subst hA
  rw [HX.out] at pc
  clear hg4 hl4 HO1
  go_wp2_with fail
  have HBw := Lib.hid H1.out.1.2.2.size
  refine (HW.out _ H1.out.1).mono ?_
  rintro e w2 ⟨A3, cp3, rfl, hown, hb⟩
  obtain ⟨g, rfl, hg3, hg3'⟩ := own_at hown HP.out
  have HO2 := Lib.hid hown
  have HB2 := Lib.hid hb
  clear c0 c1 c2 c3 c4 cl a0 a1 a2 a3 al pc hown hb hg3 hg3' HW v0
  go_wp2_with (first
    | ((with_reducible refine wpList_pool_alloc (o := ⟨_, .alloc _, _, _, _, _⟩) rfl rfl ?_); intro w3 x3 hb3 hs3; clear hs3)
    | ((with_reducible refine wpList_pool_store (o := ⟨none, .store _ _ _, _, _, _, _⟩) rfl _ _ rfl _ (some ⟨g, 0, none⟩) none n 0 cp3 0 h0 h1 h2 0 0 0 rfl rfl x3 ?_); intro w4 x4 hg4; have H4 := Lib.hid (HdSt.made H1.out.1 H1.out.2.2 (show w.heap.size + 1 < w.heap.size + 1 + 1 + 1 by omega) HB2.out HO2.out HP.out hb3 x3 x4 hg4); have HA4 := Lib.hid (((H1.out.2.1.on HB2.out).on hb3).grown hg4 (by have := H1.out.2.1.lt; have := HB2.out.size; omega)); have H5 := Lib.hid (H4.out.head HP.out HS.out (conv + j)); have HA5 := Lib.hid (HA4.out.grown (pgrown_cell w4 ⟨w2.heap.size, 1 + s, none⟩ (.int .i64 (conv + j))) (show w.heap.size + 1 + 1 ≠ w2.heap.size by have := H1.out.2.1.lt; have := HB2.out.size; omega)); have bh := H4.out.q.pool.head HS.out; have bf := H4.out.q.frozen (1 + s); clear x3 x4 hb3 hg4 HA4; obtain ⟨c0, c1, c2, c3, c4, cl⟩ := id H5.out.gp.1; obtain ⟨e0, e1, e2, e3, el⟩ := H5.out.q.pool; have eh := (H5.out.q.pool.head HS.out); rw [hd_sH HS.out] at eh; have ef := H5.out.q.frozen (1 + s))
    | fail)
  have H6 := H5.out.head HP.out HS.out 0
  rw [sH_twice, sH_twice, sH_twice] at H6
  have H6 := Lib.hid H6
  have HA6 := Lib.hid (HA5.out.grown (pgrown_cell _ ⟨w2.heap.size, 1 + s, none⟩ (.int .i64 0)) (show w.heap.size + 1 + 1 ≠ w2.heap.size by have := H1.out.2.1.lt; have := HB2.out.size; omega))
  clear c0 c1 c2 c3 c4 cl e0 e1 e2 e3 el eh ef bh bf H4 H5 HA5
  have Hwb := Lib.hid (Nat.le_trans HBw.out (Nat.le_refl w1.heap.size))
  generalize World.setCell _ _ _ = w9 at H6 HA6 ⊢
  have H9 := Lib.hid (HdSt.drew H6.out)
  have HA9 := Lib.hid (Box.drew1 HA6.out)
  clear H6 HA6
  generalize w2.heap.size = b at H9 ⊢
  have SO := Lib.hid fun w' (hq : Box w' b 27 (plcs (some ⟨g, 0, none⟩) n cp3 (sH s 0 0 h0) (sH s 1 0 h1) (sH s 2 0 h2))) => (⟨hq.cell 0, hq.cell 1, hq.cell 2, hq.cell 3⟩ :
    w'.cell? ⟨b, 0, none⟩ = some (.slice (some ⟨g, 0, none⟩) n cp3) ∧ w'.cell? ⟨b, 1, none⟩ = some (.int .i64 (sH s 0 0 h0)) ∧ w'.cell? ⟨b, 2, none⟩ = some (.int .i64 (sH s 1 0 h1)) ∧ w'.cell? ⟨b, 3, none⟩ = some (.int .i64 (sH s 2 0 h2)))
  have Hnb := Lib.hid (show w.heap.size + 1 + 1 + 1 < b by have := H9.out.hb; have := H9.out.hr; omega)
  refine wp_region_held_drew (S := (fun w' => w'.cell? ⟨b, 0, none⟩ = some (.slice (some ⟨g, 0, none⟩) n cp3) ∧ w'.cell? ⟨b, 1, none⟩ = some (.int .i64 (sH s 0 0 h0)) ∧ w'.cell? ⟨b, 2, none⟩ = some (.int .i64 (sH s 1 0 h1)) ∧ w'.cell? ⟨b, 3, none⟩ = some (.int .i64 (sH s 2 0 h2)))) (by kernel_rfl) (SO.out _ H9.out.q) (fun hHeld => ?_)
  refine wpAnyH_take (i := 0) (oi := ⟨some 56, .move _, _, _, _, _⟩) (v := .int .i64 (conv + j)) rfl (by kernel_rfl) (by kernel_rfl) (by kernel_rfl) (fun _ _ _ h => h) (Or.inl ⟨by rfl, ?hy0⟩) (by assumption) ?rest0
  case hy0 =>
    intro w hSw
    try dsimp only at hSw
    go_simp
    try with_reducible rfl
  try simp only [Act.put, List.setIfInBounds_toArray, List.set_cons_zero, List.set_cons_succ]
  refine wpAnyH_take (i := 1) (oi := ⟨some 57, .move _, _, _, _, _⟩) (v := .int .i64 x) rfl (by kernel_rfl) (by kernel_rfl) (by kernel_rfl) (fun _ _ _ h => h) (Or.inl ⟨by rfl, ?hy1⟩) (by assumption) ?rest1
  case hy1 =>
    intro w hSw
    try dsimp only at hSw
    go_simp
    try with_reducible rfl
  try simp only [Act.put, List.setIfInBounds_toArray, List.set_cons_zero, List.set_cons_succ]
  refine wpAnyH_take (i := 2) (oi := ⟨some 58, .build _ _, _, _, _, _⟩) (v := .agg #[.int .i64 (conv + j), .int .i64 x]) rfl (by kernel_rfl) (by kernel_rfl) (by kernel_rfl) (fun _ _ _ h => h) (Or.inl ⟨by rfl, ?hy2⟩) (by assumption) ?rest2
  case hy2 =>
    intro w hSw
    try dsimp only at hSw
    go_simp
    try with_reducible rfl
  try simp only [Act.put, List.setIfInBounds_toArray, List.set_cons_zero, List.set_cons_succ]
  refine wpAnyH_take (i := 3) (oi := ⟨some 59, .load _ _, _, _, _, _⟩) (v := ppv (some ⟨g, 0, none⟩) n cp3 (sH s 0 0 h0) (sH s 1 0 h1) (sH s 2 0 h2)) rfl (by kernel_rfl) (by kernel_rfl) (by kernel_rfl) (fun _ _ _ h => h) (Or.inl ⟨by rfl, ?hy3⟩) (by assumption) ?rest3
  case hy3 =>
    intro w hSw
    try dsimp only at hSw
    go_simp
    try with_reducible rfl
  try simp only [Act.put, List.setIfInBounds_toArray, List.set_cons_zero, List.set_cons_succ]
  refine wpAnyH_ready (rs := [4]) (by kernel_rfl) (by simp) ?_
  refine AllReadyH.cons (o := ⟨none, .store _ _ _, _, _, _, _⟩) rfl (fun K hK => ?_) AllReadyH.nil
  refine step_pat_store rfl _ _ rfl (w.heap.size + 1 + 1) (conv + j) x 0 0 (by rfl) (by rfl) HA9.out ?_
  intro w10 x10 hg10
  have Q10 := H9.out.q.grown hg10 (by have := Hnb.out; omega)
  have HR10 := Lib.hid (H9.out.rs.grown hg10 (by omega))
  have HO10 := Lib.hid (own_grown H9.out.own hg10 (by have := H9.out.hg; have := H9.out.hr; omega))
  have HB10 := Lib.hid (H9.out.gp.2.2.grown hg10 H9.out.gp.2.2.size (fun k hk => by injection hk with hk; omega))
  have HX10 := Lib.hid x10
  clear hHeld
  refine hK.out _ _ (SO.out _ Q10) (fun hHeld => ?_)
  clear hK K
  try simp only [Act.put, List.setIfInBounds_toArray, List.set_cons_zero, List.set_cons_succ]
  refine wpAnyH_ready (rs := [5]) (by kernel_rfl) (by simp) ?_
  refine AllReadyH.cons (o := ⟨none, .store _ _ _, _, _, _, _⟩) rfl (fun K hK => ?_) AllReadyH.nil
  refine step_pool_store rfl _ _ rfl (w.heap.size + 1 + 1 + 1) (some ⟨g, 0, none⟩) none n 0 cp3 0 (sH s 0 0 h0) (sH s 1 0 h1) (sH s 2 0 h2) 0 0 0 (by rfl) (by rfl) HR10.out ?_
  intro w11 x11 hg11
  have Q11 := Q10.grown hg11 (by have := Hnb.out; omega)
  have HF := Lib.hid (HB10.out.grown hg11 HB10.out.size (fun k hk => by injection hk with hk; omega))
  have HO11 := Lib.hid (own_base0 (own_grown HO10.out hg11 (by have := H9.out.hg; have := H9.out.hr; omega)) HBw.out)
  obtain ⟨r0, r1, r2, r3, rl⟩ := Box.pool x11
  obtain ⟨s0, s1⟩ := (HX10.out.grown hg11 (by omega)).at2
  clear hHeld
  refine hK.out _ _ (SO.out _ Q11) (fun hHeld => ?_)
  clear hK K
  try simp only [Act.put, List.setIfInBounds_toArray, List.set_cons_zero, List.set_cons_succ]
  refine wpAnyH_take (i := 6) (oi := ⟨some 8, .assign _, _, _, _, _⟩) (v := .bool true) rfl (by kernel_rfl) (by kernel_rfl) (by kernel_rfl) (fun _ _ _ h => h) (Or.inl ⟨by rfl, ?hy6⟩) (by assumption) ?rest6
  case hy6 =>
    intro w hSw
    try dsimp only at hSw
    go_simp
    try with_reducible rfl
  try simp only [Act.put, List.setIfInBounds_toArray, List.set_cons_zero, List.set_cons_succ]
  refine wpAnyH_done (by kernel_rfl) ?_ _
  try simp only [Act.put, List.setIfInBounds_toArray, List.set_cons_zero, List.set_cons_succ]
  go_wp2
  exact bodyPost_ret (v := .tuple #[.agg #[.int .i64 (conv + j), .int .i64 x], ppv (some ⟨g, 0, none⟩) n cp3 (sH s 0 0 h0) (sH s 1 0 h1) (sH s 2 0 h2), .bool true]) (by simp [results, Try.results30, go_sem, r0, r1, r2, r3, s0, s1]) rfl ⟨_, cp3, rfl, HO11.out, HF.out⟩
set_option maxRecDepth 100000 in
set_option maxHeartbeats 4000000 in
theorem rpstep_free_more (j : Nat) (x : Int) (w : World) (hm : n ≤ 64) (hn : ps.length = n) (S : Some conv seq size) (hns : (n : Int) = seq) (hs : s < 3) (hr : Rd w w.heap.size A (is ps)) (hh : hd h0 h1 h2 s = 0) (zs : List Int) (hf : freeX conv ps h0 h1 h2 n = (conv + j) :: zs) (hj : j < n) (hx : ps.getD j 0 = x) (hx0 : 0 ≤ x) (hx1 : x < size) (hfu : x + 1 ≠ size) :
    Calls Try.prog 30 #[pgv conv soft seq size opn, ppv A n cap h0 h1 h2, .int .i64 s] w fun e w' => ∃ A' c', e = .returned (.tuple #[.agg #[.int .i64 (conv + j), .int .i64 x], ppv A' n c' (sH s 0 (conv + j) h0) (sH s 1 (conv + j) h1) (sH s 2 (conv + j) h2), .bool true]) ∧ w'.ownsRow w.heap.size 3 1 (.slice A' n c') n (is (ps.set j (x + 1))) ∧ Below w.heap.size w w' := by
  have H0 := Lib.hid (GP.res2 w conv soft seq size opn A n cap h0 h1 h2)
  have HZ := Lib.hid fun w' (h : GP w w' conv soft seq size opn A n cap h0 h1 h2) => rpzones_any conv soft seq size opn A n cap ps h0 h1 h2 0 w' hm hn S (hr.gp h)
  have hsI : (s : Int) < 3 := by omega
  have hp : 0 < n := by omega
  have HW := Lib.hid fun w' (h : GP w w' conv soft seq size opn A n cap h0 h1 h2) => rpwith_any conv soft seq size opn A n cap ps h0 h1 h2 j (x + 1) w' hm hp hn S (by omega) (hr.gp h)
  have HP := Lib.hid hp
  have HS := Lib.hid hs
  have HN := Lib.hid hn
  have HJ := Lib.hid hj
  have HX := Lib.hid hx
  have HR := Lib.hid hr
  have hjI : (j : Int) < (n : Int) := by omega
  have hw1 := IntWalk.i64_in (x + 1) (by have := S.2.2.2.2; omega)
  have hw2 : IntKind.i64.wrap (conv + (j : Int) - conv) = (j : Int) := by rw [show conv + (j : Int) - conv = j by omega]; exact IntWalk.i64_in _ (by omega)
  have hq : (x + 1 == size) = false := by rw [beq_eq_false_iff_ne]; exact hfu
  obtain ⟨c0, c1, c2, c3, c4, cl⟩ := id H0.out.1.1
  obtain ⟨a0, a1, a2, a3, al⟩ := id H0.out.1.2.1
  have ah := (H0.out.1.2.1.head hs).trans (by rw [hh])
  have HF0 := Lib.hid hf
  clear hr S hn hs hh hf hj hx hx0 hx1 hfu hp
  have HZ1 := Lib.hid (HZ.out _ H0.out.1)
  rw [zonF_free] at HZ1
  go_enter Try.func30, Try.ntmps30
  go_wp2_with fail
  generalize World.alloc _ _ = w0 at H0 HZ1 c0 c1 c2 c3 c4 cl a0 a1 a2 a3 al ah ⊢
  refine HZ1.out.mono ?_
  rintro e w1 ⟨V, rfl, hown1, hb1⟩
  have H1 := Lib.hid (And.intro (H0.out.1.below hb1) (And.intro (H0.out.2.1.on hb1) (H0.out.2.2.on hb1)))
  have HO1 := Lib.hid hown1
  have HB1 := Lib.hid hb1
  clear c0 c1 c2 c3 c4 cl a0 a1 a2 a3 al ah hown1 hb1 HZ HZ1
  rw [HF0.out] at HO1
  obtain ⟨A4, c4, rfl⟩ := own_slice HO1.out
  obtain ⟨g4, rfl, hg4, hl4⟩ := own_at HO1.out (by simp)
  have v0 : w1.cell? ⟨g4, 0, none⟩ = some (.int .i64 (conv + j)) := HO1.out.cellAt 0 (by simp)
  have hlen : ¬ ((zs.length : Int) + 1 = 0) := by omega
  have hl0 : (0 : Int) < (zs.length : Int) + 1 := by omega
  obtain ⟨c0, c1, c2, c3, c4, cl⟩ := id H1.out.1.1
  obtain ⟨a0, a1, a2, a3, al⟩ := id H1.out.1.2.1
  obtain ⟨ad, hA, _, pc⟩ := (Rd.gp HR.out H1.out.1).point (k := j) (by rw [HN.out]; exact HJ.out)
  subst hA
  rw [HX.out] at pc
  clear hg4 hl4 HO1
  go_wp2_with fail
  have HBw := Lib.hid H1.out.1.2.2.size
  refine (HW.out _ H1.out.1).mono ?_
  rintro e w2 ⟨A3, cp3, rfl, hown, hb⟩
  obtain ⟨g, rfl, hg3, hg3'⟩ := own_at hown HP.out
  have HO2 := Lib.hid hown
  have HB2 := Lib.hid hb
  clear c0 c1 c2 c3 c4 cl a0 a1 a2 a3 al pc hown hb hg3 hg3' HW v0
  go_wp2_with (first
    | ((with_reducible refine wpList_pool_alloc (o := ⟨_, .alloc _, _, _, _, _⟩) rfl rfl ?_); intro w3 x3 hb3 hs3; clear hs3)
    | ((with_reducible refine wpList_pool_store (o := ⟨none, .store _ _ _, _, _, _, _⟩) rfl _ _ rfl _ (some ⟨g, 0, none⟩) none n 0 cp3 0 h0 h1 h2 0 0 0 rfl rfl x3 ?_); intro w4 x4 hg4; have H4 := Lib.hid (HdSt.made H1.out.1 H1.out.2.2 (show w.heap.size + 1 < w.heap.size + 1 + 1 + 1 by omega) HB2.out HO2.out HP.out hb3 x3 x4 hg4); have HA4 := Lib.hid (((H1.out.2.1.on HB2.out).on hb3).grown hg4 (by have := H1.out.2.1.lt; have := HB2.out.size; omega)); have H5 := Lib.hid (H4.out.head HP.out HS.out (conv + j)); have HA5 := Lib.hid (HA4.out.grown (pgrown_cell w4 ⟨w2.heap.size, 1 + s, none⟩ (.int .i64 (conv + j))) (show w.heap.size + 1 + 1 ≠ w2.heap.size by have := H1.out.2.1.lt; have := HB2.out.size; omega)); have bh := H4.out.q.pool.head HS.out; have bf := H4.out.q.frozen (1 + s); clear x3 x4 hb3 hg4 HA4; obtain ⟨c0, c1, c2, c3, c4, cl⟩ := id H5.out.gp.1; obtain ⟨e0, e1, e2, e3, el⟩ := H5.out.q.pool; have eh := (H5.out.q.pool.head HS.out); rw [hd_sH HS.out] at eh; have ef := H5.out.q.frozen (1 + s))
    | fail)
  have H6 := H5
  have HA6 := HA5
  clear c0 c1 c2 c3 c4 cl e0 e1 e2 e3 el eh ef bh bf H4 H5 HA5
  have Hwb := Lib.hid (Nat.le_trans HBw.out (Nat.le_refl w1.heap.size))
  generalize World.setCell _ _ _ = w9 at H6 HA6 ⊢
  have H9 := Lib.hid (HdSt.drew H6.out)
  have HA9 := Lib.hid (Box.drew1 HA6.out)
  clear H6 HA6
  generalize w2.heap.size = b at H9 ⊢
  have SO := Lib.hid fun w' (hq : Box w' b 27 (plcs (some ⟨g, 0, none⟩) n cp3 (sH s 0 (conv + j) h0) (sH s 1 (conv + j) h1) (sH s 2 (conv + j) h2))) => (⟨hq.cell 0, hq.cell 1, hq.cell 2, hq.cell 3⟩ :
    w'.cell? ⟨b, 0, none⟩ = some (.slice (some ⟨g, 0, none⟩) n cp3) ∧ w'.cell? ⟨b, 1, none⟩ = some (.int .i64 (sH s 0 (conv + j) h0)) ∧ w'.cell? ⟨b, 2, none⟩ = some (.int .i64 (sH s 1 (conv + j) h1)) ∧ w'.cell? ⟨b, 3, none⟩ = some (.int .i64 (sH s 2 (conv + j) h2)))
  have Hnb := Lib.hid (show w.heap.size + 1 + 1 + 1 < b by have := H9.out.hb; have := H9.out.hr; omega)
  refine wp_region_held_drew (S := (fun w' => w'.cell? ⟨b, 0, none⟩ = some (.slice (some ⟨g, 0, none⟩) n cp3) ∧ w'.cell? ⟨b, 1, none⟩ = some (.int .i64 (sH s 0 (conv + j) h0)) ∧ w'.cell? ⟨b, 2, none⟩ = some (.int .i64 (sH s 1 (conv + j) h1)) ∧ w'.cell? ⟨b, 3, none⟩ = some (.int .i64 (sH s 2 (conv + j) h2)))) (by kernel_rfl) (SO.out _ H9.out.q) (fun hHeld => ?_)
  refine wpAnyH_take (i := 0) (oi := ⟨some 56, .move _, _, _, _, _⟩) (v := .int .i64 (conv + j)) rfl (by kernel_rfl) (by kernel_rfl) (by kernel_rfl) (fun _ _ _ h => h) (Or.inl ⟨by rfl, ?hy0⟩) (by assumption) ?rest0
  case hy0 =>
    intro w hSw
    try dsimp only at hSw
    go_simp
    try with_reducible rfl
  try simp only [Act.put, List.setIfInBounds_toArray, List.set_cons_zero, List.set_cons_succ]
  refine wpAnyH_take (i := 1) (oi := ⟨some 57, .move _, _, _, _, _⟩) (v := .int .i64 x) rfl (by kernel_rfl) (by kernel_rfl) (by kernel_rfl) (fun _ _ _ h => h) (Or.inl ⟨by rfl, ?hy1⟩) (by assumption) ?rest1
  case hy1 =>
    intro w hSw
    try dsimp only at hSw
    go_simp
    try with_reducible rfl
  try simp only [Act.put, List.setIfInBounds_toArray, List.set_cons_zero, List.set_cons_succ]
  refine wpAnyH_take (i := 2) (oi := ⟨some 58, .build _ _, _, _, _, _⟩) (v := .agg #[.int .i64 (conv + j), .int .i64 x]) rfl (by kernel_rfl) (by kernel_rfl) (by kernel_rfl) (fun _ _ _ h => h) (Or.inl ⟨by rfl, ?hy2⟩) (by assumption) ?rest2
  case hy2 =>
    intro w hSw
    try dsimp only at hSw
    go_simp
    try with_reducible rfl
  try simp only [Act.put, List.setIfInBounds_toArray, List.set_cons_zero, List.set_cons_succ]
  refine wpAnyH_take (i := 3) (oi := ⟨some 59, .load _ _, _, _, _, _⟩) (v := ppv (some ⟨g, 0, none⟩) n cp3 (sH s 0 (conv + j) h0) (sH s 1 (conv + j) h1) (sH s 2 (conv + j) h2)) rfl (by kernel_rfl) (by kernel_rfl) (by kernel_rfl) (fun _ _ _ h => h) (Or.inl ⟨by rfl, ?hy3⟩) (by assumption) ?rest3
  case hy3 =>
    intro w hSw
    try dsimp only at hSw
    go_simp
    try with_reducible rfl
  try simp only [Act.put, List.setIfInBounds_toArray, List.set_cons_zero, List.set_cons_succ]
  refine wpAnyH_ready (rs := [4]) (by kernel_rfl) (by simp) ?_
  refine AllReadyH.cons (o := ⟨none, .store _ _ _, _, _, _, _⟩) rfl (fun K hK => ?_) AllReadyH.nil
  refine step_pat_store rfl _ _ rfl (w.heap.size + 1 + 1) (conv + j) x 0 0 (by rfl) (by rfl) HA9.out ?_
  intro w10 x10 hg10
  have Q10 := H9.out.q.grown hg10 (by have := Hnb.out; omega)
  have HR10 := Lib.hid (H9.out.rs.grown hg10 (by omega))
  have HO10 := Lib.hid (own_grown H9.out.own hg10 (by have := H9.out.hg; have := H9.out.hr; omega))
  have HB10 := Lib.hid (H9.out.gp.2.2.grown hg10 H9.out.gp.2.2.size (fun k hk => by injection hk with hk; omega))
  have HX10 := Lib.hid x10
  clear hHeld
  refine hK.out _ _ (SO.out _ Q10) (fun hHeld => ?_)
  clear hK K
  try simp only [Act.put, List.setIfInBounds_toArray, List.set_cons_zero, List.set_cons_succ]
  refine wpAnyH_ready (rs := [5]) (by kernel_rfl) (by simp) ?_
  refine AllReadyH.cons (o := ⟨none, .store _ _ _, _, _, _, _⟩) rfl (fun K hK => ?_) AllReadyH.nil
  refine step_pool_store rfl _ _ rfl (w.heap.size + 1 + 1 + 1) (some ⟨g, 0, none⟩) none n 0 cp3 0 (sH s 0 (conv + j) h0) (sH s 1 (conv + j) h1) (sH s 2 (conv + j) h2) 0 0 0 (by rfl) (by rfl) HR10.out ?_
  intro w11 x11 hg11
  have Q11 := Q10.grown hg11 (by have := Hnb.out; omega)
  have HF := Lib.hid (HB10.out.grown hg11 HB10.out.size (fun k hk => by injection hk with hk; omega))
  have HO11 := Lib.hid (own_base0 (own_grown HO10.out hg11 (by have := H9.out.hg; have := H9.out.hr; omega)) HBw.out)
  obtain ⟨r0, r1, r2, r3, rl⟩ := Box.pool x11
  obtain ⟨s0, s1⟩ := (HX10.out.grown hg11 (by omega)).at2
  clear hHeld
  refine hK.out _ _ (SO.out _ Q11) (fun hHeld => ?_)
  clear hK K
  try simp only [Act.put, List.setIfInBounds_toArray, List.set_cons_zero, List.set_cons_succ]
  refine wpAnyH_take (i := 6) (oi := ⟨some 8, .assign _, _, _, _, _⟩) (v := .bool true) rfl (by kernel_rfl) (by kernel_rfl) (by kernel_rfl) (fun _ _ _ h => h) (Or.inl ⟨by rfl, ?hy6⟩) (by assumption) ?rest6
  case hy6 =>
    intro w hSw
    try dsimp only at hSw
    go_simp
    try with_reducible rfl
  try simp only [Act.put, List.setIfInBounds_toArray, List.set_cons_zero, List.set_cons_succ]
  refine wpAnyH_done (by kernel_rfl) ?_ _
  try simp only [Act.put, List.setIfInBounds_toArray, List.set_cons_zero, List.set_cons_succ]
  go_wp2
  exact bodyPost_ret (v := .tuple #[.agg #[.int .i64 (conv + j), .int .i64 x], ppv (some ⟨g, 0, none⟩) n cp3 (sH s 0 (conv + j) h0) (sH s 1 (conv + j) h1) (sH s 2 (conv + j) h2), .bool true]) (by simp [results, Try.results30, go_sem, r0, r1, r2, r3, s0, s1]) rfl ⟨_, cp3, rfl, HO11.out, HF.out⟩
end
end Go.Proofs.Ytbhcemipjfdemaa

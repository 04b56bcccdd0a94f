/-
  DfU DfO
-/
import Derived.Test.YtkdhibjmfanhcaaMg40
/-
  One cell of a variable known whole is laid, at a step of a region that draws its order.
-/
namespace Go.Proofs.Ytkdhibjmfanhcaa
open Go.RowKit Geom Zone Dev
set_option linter.unusedVariables false
/-- a slice is laid into a variable's cell, at a step of a region that draws its order -/
theorem step_box_slice {P : Program} {w : World} {ops : Array Oper} {o : Oper} {a : Act} {K : Act → World → Prop} {Q : Exit → Act → World → Prop} {E : Prop} (hgd : o.guard = none) (t : TypeId) (x y : Operand) (ho : o.op = .store t x y) (g i : Nat) (T : TypeId) (cs : List Value) (A : Option Addr) (n c : Nat) (old : Value)
    (hx : a.eval x = .pointer (some ⟨g, i, none⟩)) (hy : a.eval y = .slice A n c) (hb : Box w g T cs) (hc : cs[i]? = some old) (hsz : ∀ w, (sizeOf t).run P w = .ok 1 w)
    (h : ∀ w', w' = w.setCell ⟨g, i, none⟩ (.slice A n c) → K (a.put o.dst undef) w') : if Region.wanted o (yielded ops a.tmps) = true then Oper.wp P o a w K Q else E := by
  have hw : Region.wanted o (yielded ops a.tmps) = true := by simp [Region.wanted, hgd]
  rw [if_pos hw]
  have hcell := (hb.cell i).trans hc
  have hf := hb.frozen i
  have h' := h _ rfl
  clear h
  unfold Oper.wp execOp
  simp only [ho, hx, hy]
  go_simp
  exact h'
end Go.Proofs.Ytkdhibjmfanhcaa

/-
  The document's answers for layer 5: Do, way by way.
-/
namespace Go.Proofs.Ytkdhibjmfanhcaa
open Go.RowKit Geom Zone Dev
set_option linter.unusedVariables false

set_option maxRecDepth 100000 in
set_option maxHeartbeats 400000000 in
theorem do_finish_ill (N : Nat) (conv soft seq size opn : Int) (Q : Nat → Prop) (v : KV) (d : Dk) (x : AD) (w : World) (hN : N ≤ 900) (hok : Ok conv soft seq size opn) (hfit : Fit conv seq size opn d.L) (hI : DkIs N conv soft seq size opn Q w v d) (hx : AIn w x) (hk : x.k % 9 = 5) (hdn : d.down = false) (hwhy : (act conv soft seq size opn d.L 3 x.a.1 x.a.2).2 ≠ 0) :
    Calls Try.prog 9 #[.agg (kcs v).toArray, .agg (acs x).toArray] w fun e w' => ∃ v' er, e = .returned (.tuple #[.agg (kcs v').toArray, .int .i64 er]) ∧ DkIs (N + 1) conv soft seq size opn (fun k => Q k ∨ w.heap.size ≤ k) w' v' ((finishK conv soft seq size opn d x.a).1) ∧ Below w.heap.size w w' := by
  obtain ⟨Az, nz, cz, Ad, nd, cd, As, ns, cs, Ac, nc, cc, rfl, ⟨hzl, hzn⟩, ⟨hdl, hdle⟩, hsl, hcl, hsum, hi0, hi1⟩ := hI.form
  rw [hdn] at hI ⊢
  obtain ⟨mk, hmk, hszk⟩ := big_size (P := Try.prog) (t := 36) (s := 13) (by kernel_rfl)
  have hmk0 : ¬ mk = 0 := by omega
  have HMK := Lib.hid hmk
  have HP := Lib.hid hx.p
  have HX := Lib.hid hx
  have HI := Lib.hid hI
  have HO := Lib.hid (And.intro hok hfit)
  have HB := Lib.hid (And.intro (And.intro hzl hzn) (And.intro (And.intro hdl hdle) (And.intro hsl (And.intro hcl (And.intro hsum (And.intro hi0 (And.intro hi1 hN)))))))
  have hk0 := hx.k0
  have hk1 := hx.k1
  have hi2 : d.ill ≤ 900 := by omega
  clear hmk hx hI hok hfit hzl hzn hdl hdle hsl hcl hsum hi1
  have hdn0 := Lib.hid hdn
  go_enter Try.func9, Try.ntmps9
  go_wp2_with (first
    | ((with_reducible refine wpList_kd_box (o := ⟨some 2, .box _ _, _, _, _, _⟩) rfl _ rfl (KV.mk conv soft seq size opn (.slice Az nz cz) (.slice Ad nd cd) (.slice As ns cs) (.slice Ac nc cc) (d.armed) (d.left) (false) (d.ill)) rfl ?_); intro w1 x0 hB1 hs1)
    | ((with_reducible refine wpList_act_box (o := ⟨some 3, .box _ _, _, _, _, _⟩) rfl _ rfl x rfl ?_); intro w2 x1 hB2 hs2)
    | ((with_reducible refine wpList_kd_alloc (o := ⟨some 4, .alloc _, _, _, _, _⟩) rfl rfl ?_); intro w3 x2 hB3 hs3; have L := DoX.start (M := 4000) HI.out (by have := HB.out.2.2.2.2.2.2; omega) x0 hB1 hs1 x1 hB2 hs2 x2 hB3 hs3; rw [hs2, hs1]; clear hs1 hs2 hs3 x0 x1 x2 hB1 hB2 hB3; obtain ⟨a0, a1, a2, a67, _, _, _⟩ := L.ax.act HP.out; obtain ⟨e0, e1, e2, e3, e4⟩ := L.kx.kd; obtain ⟨k5, k6, k7, k8⟩ := L.kx.kdv; obtain ⟨k9, k10, k11, k12⟩ := L.kx.kdn; have hld := big_load0 Try.prog w.heap.size 0 (kcs (KV.mk conv soft seq size opn (.slice Az nz cz) (.slice Ad nd cd) (.slice As ns cs) (.slice Ac nc cc) (d.armed) (d.left) (false) (d.ill))) mk (by rw [HMK.out]; rfl) w3 L.kx.range0; try dsimp only at e0 e1 e2 e3 e4 k5 k6 k7 k8 k9 k10 k11 k12; have HL := Lib.hid L; clear L)
    | fail)
  refine (ract_any conv soft seq size opn x.a.1 x.a.2 Az nz cz d.L w3 (by have h1 := HB.out.1.2; have h2 := HO.out.1.2.2.1; omega) HB.out.1.1 HO.out.1 HO.out.2 (HL.out.is.zrow rfl).2.2.rd 3 (by omega)).mono ?_
  rintro e w4 ⟨A1, c1, rfl, hr1, hb4, hpv⟩
  have HA := Lib.hid (And.intro (act_length conv soft seq size opn d.L 3 x.a.1 x.a.2) ((HL.out.is.zrow rfl).2.2.gives (zc_ne (by rw [HB.out.1.1]; have h1 := HB.out.1.2; have h2 := HO.out.1.1; have h3 := HO.out.1.2.1; omega)) hr1 hpv (VV.far (Q := Q) HL.out.sz)))
  have L4 := HL.out.on hb4
  clear hr1 hb4 hpv a0 a1 a2 a67 e0 e1 e2 e3 e4 k5 k6 k7 k8 k9 k10 k11 k12 hld
  generalize hact : act conv soft seq size opn d.L 3 x.a.1 x.a.2 = r at *
  have HC := Lib.hid hact
  clear hact
  obtain ⟨L1, why⟩ := r
  dsimp only at HA HC ⊢
  obtain ⟨a0, a1, a2, a67, _, _, _⟩ := L4.ax.act HP.out; obtain ⟨e0, e1, e2, e3, e4⟩ := L4.kx.kd; obtain ⟨k5, k6, k7, k8⟩ := L4.kx.kdv; obtain ⟨k9, k10, k11, k12⟩ := L4.kx.kdn; have hld := big_load0 Try.prog w.heap.size 0 (kcs (KV.mk conv soft seq size opn (.slice Az nz cz) (.slice Ad nd cd) (.slice As ns cs) (.slice Ac nc cc) (d.armed) (d.left) (false) (d.ill))) mk (by rw [HMK.out]; rfl) w4 L4.kx.range0; try dsimp only at e0 e1 e2 e3 e4 k5 k6 k7 k8 k9 k10 k11 k12
  have HL4 := Lib.hid L4
  clear L4
  have hw1 : (why == 0) = false := by simpa using hwhy
  have HWy := Lib.hid hwhy
  have hwhy2 : ¬ why = 0 := hwhy
  have hkok : KOk (KV.mk conv soft seq size opn (.slice Az nz cz) (.slice Ad nd cd) (.slice As ns cs) (.slice Ac nc cc) (d.armed) (d.left) (false) (d.ill + 1)) := ⟨rfl, rfl, rfl, rfl⟩
  go_wp2_with (first
    | ((with_reducible refine wpList_box_int (o := ⟨none, .store _ _ _, _, _, _, _⟩) rfl _ _ _ rfl w.heap.size 12 _ _ (d.ill + 1) _ rfl rfl HL4.out.kx (kc12 _) size_i64 ?_); intro w60 hw60; have L60 := HL4.out.put 12 (.int .i64 (d.ill + 1)) (KV.mk conv soft seq size opn (.slice Az nz cz) (.slice Ad nd cd) (.slice As ns cs) (.slice Ac nc cc) (d.armed) (d.left) (false) (d.ill + 1)) { d with ill := d.ill + 1 } rfl ⟨HL4.out.is.fg, HL4.out.is.fz, HL4.out.is.fd, HL4.out.is.fs, HL4.out.is.fc, HL4.out.is.fsum, ⟨HL4.out.is.fnum.1, HL4.out.is.fnum.2.1, HL4.out.is.fnum.2.2.1, rfl, (by dsimp only; omega), (by dsimp only; omega)⟩⟩; rw [← hw60] at L60; clear hw60 a0 a1 a2 a67 e0 e1 e2 e3 e4 k5 k6 k7 k8 k9 k10 k11 k12 hld; obtain ⟨a0, a1, a2, a67, _, _, _⟩ := L60.ax.act HP.out; obtain ⟨e0, e1, e2, e3, e4⟩ := L60.kx.kd; obtain ⟨k5, k6, k7, k8⟩ := L60.kx.kdv; obtain ⟨k9, k10, k11, k12⟩ := L60.kx.kdn; have hld := big_load0 Try.prog w.heap.size 0 (kcs (KV.mk conv soft seq size opn (.slice Az nz cz) (.slice Ad nd cd) (.slice As ns cs) (.slice Ac nc cc) (d.armed) (d.left) (false) (d.ill + 1))) mk (by rw [HMK.out]; rfl) w60 L60.kx.range0; try dsimp only at e0 e1 e2 e3 e4 k5 k6 k7 k8 k9 k10 k11 k12; have HL60 := Lib.hid L60; clear L60)
    | ((refine wpList_kd_store (o := ⟨none, .store _ _ _, _, _, _, _⟩) rfl _ _ rfl (w.heap.size + 1 + 1) (KV.mk conv soft seq size opn (.slice Az nz cz) (.slice Ad nd cd) (.slice As ns cs) (.slice Ac nc cc) (d.armed) (d.left) (false) (d.ill + 1)) kd0 hkok rfl rfl HL60.out.rx ?_); intro w9 hb9 hg9 hs9; clear hs9)
    | fail)
  have hldF := big_load0 Try.prog (w.heap.size + 1 + 1) 0 (kcs (KV.mk conv soft seq size opn (.slice Az nz cz) (.slice Ad nd cd) (.slice As ns cs) (.slice Ac nc cc) (d.armed) (d.left) (false) (d.ill + 1))) mk (by rw [HMK.out]; rfl) _ hb9.range0
  have HE := Lib.hid (HL60.out.done (M := N + 1) hg9 (by have h1 := HB.out.2.1; (try dsimp only); omega) (by have h1 := HB.out.2.2; (try dsimp only); omega) (by have h1 := HB.out.2.2; (try dsimp only); omega))
  have hfin : DkIs (N + 1) conv soft seq size opn (fun k => Q k ∨ w.heap.size ≤ k) w9 (KV.mk conv soft seq size opn (.slice Az nz cz) (.slice Ad nd cd) (.slice As ns cs) (.slice Ac nc cc) (d.armed) (d.left) (false) (d.ill + 1)) ((finishK conv soft seq size opn d x.a).1) := by rw [show (finishK conv soft seq size opn d x.a).1 = { d with ill := d.ill + 1 } by unfold finishK; rw [if_neg (by rw [hdn0.out]; simp)]; (try dsimp only); rw [HC.out, if_pos HWy.out]]; exact HE.out.1
  generalize hR : kcs (KV.mk conv soft seq size opn (.slice Az nz cz) (.slice Ad nd cd) (.slice As ns cs) (.slice Ac nc cc) (d.armed) (d.left) (false) (d.ill + 1)) = R at hldF ⊢
  refine bodyPost_ret (v := .tuple #[.agg R.toArray, .int .i64 why]) (by simp [results, Try.results9, go_sem, hszk, hldF]) rfl ?_
  first
    | exact ⟨(KV.mk conv soft seq size opn (.slice Az nz cz) (.slice Ad nd cd) (.slice As ns cs) (.slice Ac nc cc) (d.armed) (d.left) (false) (d.ill + 1)), why, by rw [hR], hfin, HE.out.2⟩
    | exact ⟨(KV.mk conv soft seq size opn (.slice Az nz cz) (.slice Ad nd cd) (.slice As ns cs) (.slice Ac nc cc) (d.armed) (d.left) (false) (d.ill + 1)), ⟨why, by rw [hR]⟩, hfin, HE.out.2⟩

set_option maxRecDepth 100000 in
set_option maxHeartbeats 400000000 in
theorem do_finish_tick (N : Nat) (conv soft seq size opn : Int) (Q : Nat → Prop) (v : KV) (d : Dk) (x : AD) (w : World) (hN : N ≤ 900) (hok : Ok conv soft seq size opn) (hfit : Fit conv seq size opn d.L) (hI : DkIs N conv soft seq size opn Q w v d) (hx : AIn w x) (hk : x.k % 9 = 5) (hdn : d.down = false) (hwhy : (act conv soft seq size opn d.L 3 x.a.1 x.a.2).2 = 0) (har : d.armed = true) (hl0 : 0 < d.left) (hl1 : d.left < 9223372036854775808) :
    Calls Try.prog 9 #[.agg (kcs v).toArray, .agg (acs x).toArray] w fun e w' => ∃ v' er, e = .returned (.tuple #[.agg (kcs v').toArray, .int .i64 er]) ∧ DkIs (N + 1) conv soft seq size opn (fun k => Q k ∨ w.heap.size ≤ k) w' v' ((finishK conv soft seq size opn d x.a).1) ∧ Below w.heap.size w w' := by
  obtain ⟨Az, nz, cz, Ad, nd, cd, As, ns, cs, Ac, nc, cc, rfl, ⟨hzl, hzn⟩, ⟨hdl, hdle⟩, hsl, hcl, hsum, hi0, hi1⟩ := hI.form
  rw [hdn] at hI ⊢
  rw [har] at hI ⊢
  obtain ⟨mk, hmk, hszk⟩ := big_size (P := Try.prog) (t := 36) (s := 13) (by kernel_rfl)
  have hmk0 : ¬ mk = 0 := by omega
  have HMK := Lib.hid hmk
  have HP := Lib.hid hx.p
  have HX := Lib.hid hx
  have HI := Lib.hid hI
  have HO := Lib.hid (And.intro hok hfit)
  have HB := Lib.hid (And.intro (And.intro hzl hzn) (And.intro (And.intro hdl hdle) (And.intro hsl (And.intro hcl (And.intro hsum (And.intro hi0 (And.intro hi1 hN)))))))
  have hk0 := hx.k0
  have hk1 := hx.k1
  have hi2 : d.ill ≤ 900 := by omega
  clear hmk hx hI hok hfit hzl hzn hdl hdle hsl hcl hsum hi1
  have hdn0 := Lib.hid hdn
  have har0 := Lib.hid har
  go_enter Try.func9, Try.ntmps9
  go_wp2_with (first
    | ((with_reducible refine wpList_kd_box (o := ⟨some 2, .box _ _, _, _, _, _⟩) rfl _ rfl (KV.mk conv soft seq size opn (.slice Az nz cz) (.slice Ad nd cd) (.slice As ns cs) (.slice Ac nc cc) (true) (d.left) (false) (d.ill)) rfl ?_); intro w1 x0 hB1 hs1)
    | ((with_reducible refine wpList_act_box (o := ⟨some 3, .box _ _, _, _, _, _⟩) rfl _ rfl x rfl ?_); intro w2 x1 hB2 hs2)
    | ((with_reducible refine wpList_kd_alloc (o := ⟨some 4, .alloc _, _, _, _, _⟩) rfl rfl ?_); intro w3 x2 hB3 hs3; have L := DoX.start (M := 4000) HI.out (by have := HB.out.2.2.2.2.2.2; omega) x0 hB1 hs1 x1 hB2 hs2 x2 hB3 hs3; rw [hs2, hs1]; clear hs1 hs2 hs3 x0 x1 x2 hB1 hB2 hB3; obtain ⟨a0, a1, a2, a67, _, _, _⟩ := L.ax.act HP.out; obtain ⟨e0, e1, e2, e3, e4⟩ := L.kx.kd; obtain ⟨k5, k6, k7, k8⟩ := L.kx.kdv; obtain ⟨k9, k10, k11, k12⟩ := L.kx.kdn; have hld := big_load0 Try.prog w.heap.size 0 (kcs (KV.mk conv soft seq size opn (.slice Az nz cz) (.slice Ad nd cd) (.slice As ns cs) (.slice Ac nc cc) (true) (d.left) (false) (d.ill))) mk (by rw [HMK.out]; rfl) w3 L.kx.range0; try dsimp only at e0 e1 e2 e3 e4 k5 k6 k7 k8 k9 k10 k11 k12; have HL := Lib.hid L; clear L)
    | fail)
  refine (ract_any conv soft seq size opn x.a.1 x.a.2 Az nz cz d.L w3 (by have h1 := HB.out.1.2; have h2 := HO.out.1.2.2.1; omega) HB.out.1.1 HO.out.1 HO.out.2 (HL.out.is.zrow rfl).2.2.rd 3 (by omega)).mono ?_
  rintro e w4 ⟨A1, c1, rfl, hr1, hb4, hpv⟩
  have HA := Lib.hid (And.intro (act_length conv soft seq size opn d.L 3 x.a.1 x.a.2) ((HL.out.is.zrow rfl).2.2.gives (zc_ne (by rw [HB.out.1.1]; have h1 := HB.out.1.2; have h2 := HO.out.1.1; have h3 := HO.out.1.2.1; omega)) hr1 hpv (VV.far (Q := Q) HL.out.sz)))
  have L4 := HL.out.on hb4
  clear hr1 hb4 hpv a0 a1 a2 a67 e0 e1 e2 e3 e4 k5 k6 k7 k8 k9 k10 k11 k12 hld
  generalize hact : act conv soft seq size opn d.L 3 x.a.1 x.a.2 = r at *
  have HC := Lib.hid hact
  clear hact
  obtain ⟨L1, why⟩ := r
  dsimp only at HA HC ⊢
  obtain ⟨a0, a1, a2, a67, _, _, _⟩ := L4.ax.act HP.out; obtain ⟨e0, e1, e2, e3, e4⟩ := L4.kx.kd; obtain ⟨k5, k6, k7, k8⟩ := L4.kx.kdv; obtain ⟨k9, k10, k11, k12⟩ := L4.kx.kdn; have hld := big_load0 Try.prog w.heap.size 0 (kcs (KV.mk conv soft seq size opn (.slice Az nz cz) (.slice Ad nd cd) (.slice As ns cs) (.slice Ac nc cc) (true) (d.left) (false) (d.ill))) mk (by rw [HMK.out]; rfl) w4 L4.kx.range0; try dsimp only at e0 e1 e2 e3 e4 k5 k6 k7 k8 k9 k10 k11 k12
  have HL4 := Lib.hid L4
  clear L4
  subst hwhy
  go_wp2_with (first
    | ((with_reducible refine wpList_box_slice (o := ⟨none, .store _ _ _, _, _, _, _⟩) rfl _ _ _ rfl w.heap.size 5 _ _ A1 _ c1 _ rfl rfl HL4.out.kx (kc5 _) size_rzones ?_); intro w61 hw61; have L61 := HL4.out.put 5 (.slice A1 nz c1) (KV.mk conv soft seq size opn (.slice A1 nz c1) (.slice Ad nd cd) (.slice As ns cs) (.slice Ac nc cc) (true) (d.left) (false) (d.ill)) { d with L := L1 } rfl ⟨HL4.out.is.fg, ⟨A1, nz, c1, rfl, HA.out.1.trans HB.out.1.1, HB.out.1.2, HA.out.2⟩, HL4.out.is.fd, HL4.out.is.fs, HL4.out.is.fc, HL4.out.is.fsum, ⟨HL4.out.is.fnum.1, HL4.out.is.fnum.2.1, HL4.out.is.fnum.2.2.1, HL4.out.is.fnum.2.2.2.1, HL4.out.is.fnum.2.2.2.2.1, HL4.out.is.fnum.2.2.2.2.2⟩⟩; rw [← hw61] at L61; clear hw61 a0 a1 a2 a67 e0 e1 e2 e3 e4 k5 k6 k7 k8 k9 k10 k11 k12 hld; obtain ⟨a0, a1, a2, a67, _, _, _⟩ := L61.ax.act HP.out; obtain ⟨e0, e1, e2, e3, e4⟩ := L61.kx.kd; obtain ⟨k5, k6, k7, k8⟩ := L61.kx.kdv; obtain ⟨k9, k10, k11, k12⟩ := L61.kx.kdn; have hld := big_load0 Try.prog w.heap.size 0 (kcs (KV.mk conv soft seq size opn (.slice A1 nz c1) (.slice Ad nd cd) (.slice As ns cs) (.slice Ac nc cc) (true) (d.left) (false) (d.ill))) mk (by rw [HMK.out]; rfl) w61 L61.kx.range0; try dsimp only at e0 e1 e2 e3 e4 k5 k6 k7 k8 k9 k10 k11 k12; have HL61 := Lib.hid L61; clear L61)
    | fail)
  clear a0 a1 a2 a67 e0 e1 e2 e3 e4 k5 k6 k7 k8 k9 k10 k11 k12 hld
  have HLd := Lib.hid (HL61.out.on (Below.refl _ _).drew)
  have SO := Lib.hid fun (w' : World) (h : DoX 4000 conv soft seq size opn Q w w' x (KV.mk conv soft seq size opn (.slice A1 nz c1) (.slice Ad nd cd) (.slice As ns cs) (.slice Ac nc cc) (true) (d.left) (false) (d.ill)) { d with L := L1 }) => (show w'.cell? ⟨w.heap.size, 8, none⟩ = some (.slice Ac nc cc) from h.kx.kdv.2.2.2)
  refine wp_region_held_drew (S := fun w' => w'.cell? ⟨w.heap.size, 8, none⟩ = some (.slice Ac nc cc)) (by kernel_rfl) ?_ (fun hHeld => ?_)
  · exact SO.out _ HLd.out
  refine wpAnyH_take (i := 0) (v := ?v0) rfl (by kernel_rfl) (by kernel_rfl) (by kernel_rfl) (fun _ _ _ h => h) (Or.inl ⟨by rfl, ?hy0⟩) (by assumption) ?rest0
  case hy0 =>
    intro w hSw
    try dsimp only at hSw
    go_simp
    try with_reducible rfl
  try simp only [Act.put]
  refine wpAnyH_take (i := 2) (v := ?v2) rfl (by kernel_rfl) (by kernel_rfl) (by kernel_rfl) (fun _ _ _ h => h) (Or.inl ⟨by rfl, ?hy2⟩) (by assumption) ?rest2
  case hy2 =>
    intro w hSw
    try dsimp only at hSw
    go_simp
    try with_reducible rfl
  try simp only [Act.put]
  refine wpAnyH_take (i := 3) (v := ?v3) rfl (by kernel_rfl) (by kernel_rfl) (by kernel_rfl) (fun _ _ _ h => h) (Or.inl ⟨by rfl, ?hy3⟩) (by assumption) ?rest3
  case hy3 =>
    intro w hSw
    try dsimp only at hSw
    go_simp
    try with_reducible rfl
  try simp only [Act.put]
  refine wpAnyH_take (i := 4) (v := ?v4) rfl (by kernel_rfl) (by kernel_rfl) (by kernel_rfl) (fun _ _ _ h => h) (Or.inl ⟨by rfl, ?hy4⟩) (by assumption) ?rest4
  case hy4 =>
    intro w hSw
    try dsimp only at hSw
    go_simp
    try with_reducible rfl
  try simp only [Act.put]
  
  refine wpAnyH_ready (rs := [1, 5]) (by kernel_rfl) (by simp) ?_
  refine AllReadyH.cons (o := ⟨some 134, .load _ _, _, _, _, _⟩) rfl (fun K hK => ?_) (AllReadyH.cons (o := ⟨some 138, .call _, _, _, _, _⟩) rfl (fun K hK => ?_) AllReadyH.nil)
  · have k7 := HLd.out.kx.kdv.2.2.1
    try dsimp only at k7
    go_simp
    refine hK.out _ _ (SO.out _ HLd.out) (fun hHeld => ?_)
    clear hK K
    try simp only [Act.put]
    refine wpAnyH_ready (rs := [5]) (by kernel_rfl) (by simp) ?_
    refine AllReadyH.cons (o := ⟨some 138, .call _, _, _, _, _⟩) rfl (fun K hK => ?_) AllReadyH.nil
    clear k7
    go_simp
    refine (donly_any Ac nc cc d.cached x.a.1 _ HB.out.2.2.2.1 (by have := HB.out.2.2; omega) (HLd.out.is.crow rfl).2.1 (HLd.out.is.crow rfl).2.2.row).mono ?_
    rintro e w6 ⟨V, rfl, hown, hb⟩
    obtain ⟨A2, c2, hV⟩ := own_slice hown
    subst hV
    obtain ⟨n2, hn2⟩ : ∃ n, (onlyK d.cached x.a.1).length = n := ⟨_, rfl⟩
    rw [hn2] at hown ⊢
    have HR2 := Lib.hid (RowQ.own (A := A2) (xs := wcs (onlyK d.cached x.a.1)) hown (VV.far (Q := Q) HLd.out.sz))
    have HN2 := Lib.hid hn2
    have Lw6 := HLd.out.on hb
    clear hown hb hn2 
    obtain ⟨a0, a1, a2, a67, _, _, _⟩ := Lw6.ax.act HP.out; obtain ⟨e0, e1, e2, e3, e4⟩ := Lw6.kx.kd; obtain ⟨k5, k6, k7, k8⟩ := Lw6.kx.kdv; obtain ⟨k9, k10, k11, k12⟩ := Lw6.kx.kdn; have hld := big_load0 Try.prog w.heap.size 0 (kcs (KV.mk conv soft seq size opn (.slice A1 nz c1) (.slice Ad nd cd) (.slice As ns cs) (.slice Ac nc cc) (true) (d.left) (false) (d.ill))) mk (by rw [HMK.out]; rfl) w6 Lw6.kx.range0; try dsimp only at e0 e1 e2 e3 e4 k5 k6 k7 k8 k9 k10 k11 k12
    have HLw6 := Lib.hid Lw6
    clear Lw6
    have HK2 := Lib.hid (show n2 ≤ nc by rw [← HN2.out, ← HB.out.2.2.2.1]; exact List.length_filter_le _ _)
    clear a0 a1 a2 a67 e0 e1 e2 e3 e4 k5 k6 k7 k8 k9 k10 k11 k12 hld
    go_wp2_with fail
    refine hK.out _ _ (SO.out _ HLw6.out) (fun hHeld => ?_)
    clear hK K
    try simp only [Act.put]
    refine wpAnyH_ready (rs := [6]) (by kernel_rfl) (by simp) ?_
    refine AllReadyH.cons (o := ⟨some 139, .call _, _, _, _, _⟩) rfl (fun K hK => ?_) AllReadyH.nil
    go_simp
    refine (dcat_any As A2 ns cs n2 c2 d.safe (onlyK d.cached x.a.1) _ HB.out.2.2.1 HN2.out (by have := HB.out.2.2; omega) (by have := HK2.out; have := HB.out.2.2; omega) (HLw6.out.is.srow rfl).2.1 (wok_filter _ (HLw6.out.is.crow rfl).2.1) (HLw6.out.is.srow rfl).2.2.row HR2.out.row).mono ?_
    rintro e w7 ⟨V, rfl, hown, hb⟩
    obtain ⟨A3, c3, hV⟩ := own_slice hown
    subst hV
    obtain ⟨n3, hn3⟩ : ∃ n, (d.safe ++ onlyK d.cached x.a.1).length = n := ⟨_, rfl⟩
    rw [hn3] at hown ⊢
    have HR3 := Lib.hid (RowQ.own (A := A3) (xs := wcs (d.safe ++ onlyK d.cached x.a.1)) hown (VV.far (Q := Q) HLw6.out.sz))
    have HN3 := Lib.hid hn3
    have Lw7 := HLw6.out.on hb
    clear hown hb hn3 
    obtain ⟨a0, a1, a2, a67, _, _, _⟩ := Lw7.ax.act HP.out; obtain ⟨e0, e1, e2, e3, e4⟩ := Lw7.kx.kd; obtain ⟨k5, k6, k7, k8⟩ := Lw7.kx.kdv; obtain ⟨k9, k10, k11, k12⟩ := Lw7.kx.kdn; have hld := big_load0 Try.prog w.heap.size 0 (kcs (KV.mk conv soft seq size opn (.slice A1 nz c1) (.slice Ad nd cd) (.slice As ns cs) (.slice Ac nc cc) (true) (d.left) (false) (d.ill))) mk (by rw [HMK.out]; rfl) w7 Lw7.kx.range0; try dsimp only at e0 e1 e2 e3 e4 k5 k6 k7 k8 k9 k10 k11 k12
    have HLw7 := Lib.hid Lw7
    clear Lw7
    have HK3 := Lib.hid (show n3 = ns + n2 by rw [← HN3.out, List.length_append, HB.out.2.2.1, HN2.out])
    clear a0 a1 a2 a67 e0 e1 e2 e3 e4 k5 k6 k7 k8 k9 k10 k11 k12 hld
    go_wp2_with fail
    refine hK.out _ _ (SO.out _ HLw7.out) (fun hHeld => ?_)
    clear hK K
    try simp only [Act.put]
    refine wpAnyH_take (i := 7) (v := ?v7a) rfl (by kernel_rfl) (by kernel_rfl) (by kernel_rfl) (fun _ _ _ h => h) (Or.inl ⟨by rfl, ?hy7a⟩) (by assumption) ?rest7a
    case hy7a =>
      intro w hSw
      try dsimp only at hSw
      go_simp
      try with_reducible rfl
    try simp only [Act.put]
    refine wpAnyH_ready (rs := [8]) (by kernel_rfl) (by simp) ?_
    refine AllReadyH.cons (o := ⟨none, .store _ _ _, _, _, _, _⟩) rfl (fun K hK => ?_) AllReadyH.nil
    refine step_box_slice rfl _ _ _ rfl w.heap.size 7 _ _ A3 n3 c3 _ (by rfl) (by rfl) HLw7.out.kx (kc7 _) size_rcells ?_
    (intro w62 hw62; have L62 := HLw7.out.put 7 (.slice A3 n3 c3) (KV.mk conv soft seq size opn (.slice A1 nz c1) (.slice Ad nd cd) (.slice A3 n3 c3) (.slice Ac nc cc) (true) (d.left) (false) (d.ill)) { d with L := L1, safe := d.safe ++ onlyK d.cached x.a.1 } rfl ⟨HLw7.out.is.fg, HLw7.out.is.fz, HLw7.out.is.fd, ⟨A3, n3, c3, rfl, HN3.out, wok_append (HLw7.out.is.srow rfl).2.1 (wok_filter _ (HLw7.out.is.crow rfl).2.1), HR3.out⟩, HLw7.out.is.fc, (by have h1 := HN3.out; have h3 := HK3.out; have h4 := HK2.out; have h2 := HB.out.2.2; dsimp only; omega), ⟨HLw7.out.is.fnum.1, HLw7.out.is.fnum.2.1, HLw7.out.is.fnum.2.2.1, HLw7.out.is.fnum.2.2.2.1, HLw7.out.is.fnum.2.2.2.2.1, HLw7.out.is.fnum.2.2.2.2.2⟩⟩; rw [← hw62] at L62; clear hw62; obtain ⟨a0, a1, a2, a67, _, _, _⟩ := L62.ax.act HP.out; obtain ⟨e0, e1, e2, e3, e4⟩ := L62.kx.kd; obtain ⟨k5, k6, k7, k8⟩ := L62.kx.kdv; obtain ⟨k9, k10, k11, k12⟩ := L62.kx.kdn; have hld := big_load0 Try.prog w.heap.size 0 (kcs (KV.mk conv soft seq size opn (.slice A1 nz c1) (.slice Ad nd cd) (.slice A3 n3 c3) (.slice Ac nc cc) (true) (d.left) (false) (d.ill))) mk (by rw [HMK.out]; rfl) w62 L62.kx.range0; try dsimp only at e0 e1 e2 e3 e4 k5 k6 k7 k8 k9 k10 k11 k12; have HL62 := Lib.hid L62; clear L62)
    refine hK.out _ _ HL62.out.kx.kdv.2.2.2 (fun hHeld => ?_)
    clear hK K
    try simp only [Act.put]
    refine wpAnyH_done (by kernel_rfl) ?_ _
    go_wp2_with (first
      | fail)
    refine (dout_any Ac nc cc d.cached x.a.1 w62 HB.out.2.2.2.1 (by have := HB.out.2.2; omega) (HL62.out.is.crow rfl).2.1 (HL62.out.is.crow rfl).2.2.row).mono ?_
    rintro e w8 ⟨V, rfl, hown, hb⟩
    obtain ⟨A4, c4, hV⟩ := own_slice hown
    subst hV
    obtain ⟨n4, hn4⟩ : ∃ n, (outK d.cached x.a.1).length = n := ⟨_, rfl⟩
    rw [hn4] at hown ⊢
    have HR4 := Lib.hid (RowQ.own (A := A4) (xs := wcs (outK d.cached x.a.1)) hown (VV.far (Q := Q) HL62.out.sz))
    have HN4 := Lib.hid hn4
    have Lw8 := HL62.out.on hb
    clear hown hb hn4 a0 a1 a2 a67 e0 e1 e2 e3 e4 k5 k6 k7 k8 k9 k10 k11 k12 hld
    obtain ⟨a0, a1, a2, a67, _, _, _⟩ := Lw8.ax.act HP.out; obtain ⟨e0, e1, e2, e3, e4⟩ := Lw8.kx.kd; obtain ⟨k5, k6, k7, k8⟩ := Lw8.kx.kdv; obtain ⟨k9, k10, k11, k12⟩ := Lw8.kx.kdn; have hld := big_load0 Try.prog w.heap.size 0 (kcs (KV.mk conv soft seq size opn (.slice A1 nz c1) (.slice Ad nd cd) (.slice A3 n3 c3) (.slice Ac nc cc) (true) (d.left) (false) (d.ill))) mk (by rw [HMK.out]; rfl) w8 Lw8.kx.range0; try dsimp only at e0 e1 e2 e3 e4 k5 k6 k7 k8 k9 k10 k11 k12
    have HLw8 := Lib.hid Lw8
    clear Lw8
    have HK4 := Lib.hid (show n4 + n2 = nc by rw [← HN4.out, ← HN2.out, ← HB.out.2.2.2.1]; exact out_only_length _ _)
    go_wp2_with (first
      | ((with_reducible refine wpList_box_slice (o := ⟨none, .store _ _ _, _, _, _, _⟩) rfl _ _ _ rfl w.heap.size 8 _ _ A4 _ c4 _ rfl rfl HLw8.out.kx (kc8 _) size_rcells ?_); intro w63 hw63; have L63 := HLw8.out.put 8 (.slice A4 n4 c4) (KV.mk conv soft seq size opn (.slice A1 nz c1) (.slice Ad nd cd) (.slice A3 n3 c3) (.slice A4 n4 c4) (true) (d.left) (false) (d.ill)) { d with L := L1, safe := d.safe ++ onlyK d.cached x.a.1, cached := outK d.cached x.a.1 } rfl ⟨HLw8.out.is.fg, HLw8.out.is.fz, HLw8.out.is.fd, HLw8.out.is.fs, ⟨A4, n4, c4, rfl, HN4.out, wok_filter _ (HLw8.out.is.crow rfl).2.1, HR4.out⟩, (by have h1 := HN3.out; have h3 := HK3.out; have h4 := HN4.out; have h5 := HK4.out; have h2 := HB.out.2.2; dsimp only; omega), ⟨HLw8.out.is.fnum.1, HLw8.out.is.fnum.2.1, HLw8.out.is.fnum.2.2.1, HLw8.out.is.fnum.2.2.2.1, HLw8.out.is.fnum.2.2.2.2.1, HLw8.out.is.fnum.2.2.2.2.2⟩⟩; rw [← hw63] at L63; clear hw63 a0 a1 a2 a67 e0 e1 e2 e3 e4 k5 k6 k7 k8 k9 k10 k11 k12 hld; obtain ⟨a0, a1, a2, a67, _, _, _⟩ := L63.ax.act HP.out; obtain ⟨e0, e1, e2, e3, e4⟩ := L63.kx.kd; obtain ⟨k5, k6, k7, k8⟩ := L63.kx.kdv; obtain ⟨k9, k10, k11, k12⟩ := L63.kx.kdn; have hld := big_load0 Try.prog w.heap.size 0 (kcs (KV.mk conv soft seq size opn (.slice A1 nz c1) (.slice Ad nd cd) (.slice A3 n3 c3) (.slice A4 n4 c4) (true) (d.left) (false) (d.ill))) mk (by rw [HMK.out]; rfl) w63 L63.kx.range0; try dsimp only at e0 e1 e2 e3 e4 k5 k6 k7 k8 k9 k10 k11 k12; have HL63 := Lib.hid L63; clear L63; have k6a : (w63.alloc (.cells #[] 3)).cell? ⟨w.heap.size, 6, none⟩ = some (.slice Ad nd cd) := (HL63.out.on ((Below.refl _ _).alloc (Nat.le_refl _) (.cells #[] 3 (0, 0)))).kx.kdv.2.1)
      | (at_builtin; refine wpList_append_copy _ rfl _ _ _ rfl 3 _ 1 8 elemI rfl Ad nd cd rfl (ints d.done) (by simp [ints, HB.out.2.1.1]) (HL63.out.is.drow rfl).2.2.rd (fun u hu => by simp only [ints, List.mem_map] at hu; obtain ⟨_, _, rfl⟩ := hu; rfl) (by have := HB.out.2; simp only [maxLen]; omega) (by have := HB.out.2; omega) ?_; intro A5 c5 w21 hown5 hb5; have HB5 := Lib.hid hb5; have hs21 := hb5.size; have L21 := HL63.out.on hb5; clear hb5 k6a a0 a1 a2 a67 e0 e1 e2 e3 e4 k5 k6 k7 k8 k9 k10 k11 k12 hld; obtain ⟨a0, a1, a2, a67, _, _, _⟩ := L21.ax.act HP.out; obtain ⟨e0, e1, e2, e3, e4⟩ := L21.kx.kd; obtain ⟨k5, k6, k7, k8⟩ := L21.kx.kdv; obtain ⟨k9, k10, k11, k12⟩ := L21.kx.kdn; have hld := big_load0 Try.prog w.heap.size 0 (kcs (KV.mk conv soft seq size opn (.slice A1 nz c1) (.slice Ad nd cd) (.slice A3 n3 c3) (.slice A4 n4 c4) (true) (d.left) (false) (d.ill))) mk (by rw [HMK.out]; rfl) w21 L21.kx.range0; try dsimp only at e0 e1 e2 e3 e4 k5 k6 k7 k8 k9 k10 k11 k12; clear L21)
      | (at_builtin; refine wpList_append_one _ rfl _ _ _ rfl w63.heap.size 3 _ 8 elemI (.slice A5 nd c5) nd (ints d.done) rfl (.int .i64 x.a.1) rfl hown5 rfl (by have := HB.out.2; simp only [maxLen]; omega) (by have := HB.out.2; omega) hs21 ?_; intro v6 w22 hown6 hg6; obtain ⟨A6, c6, rfl⟩ := own_slice hown6; have hb22 := HB5.out.grown hg6 hs21 fun g hg => (hown5.lt g hg).1; have L22 := HL63.out.on hb22; have HR6 := Lib.hid (show RdQ (VV Q w) w22 A6 (ints (d.done ++ [x.a.1])) from (by rw [ints_snoc]; exact RdQ.own hown6 (VV.far (Q := Q) HL63.out.sz))); clear hb22 hown6 hg6 hown5 hs21 a0 a1 a2 a67 e0 e1 e2 e3 e4 k5 k6 k7 k8 k9 k10 k11 k12 hld; obtain ⟨a0, a1, a2, a67, _, _, _⟩ := L22.ax.act HP.out; obtain ⟨e0, e1, e2, e3, e4⟩ := L22.kx.kd; obtain ⟨k5, k6, k7, k8⟩ := L22.kx.kdv; obtain ⟨k9, k10, k11, k12⟩ := L22.kx.kdn; have hld := big_load0 Try.prog w.heap.size 0 (kcs (KV.mk conv soft seq size opn (.slice A1 nz c1) (.slice Ad nd cd) (.slice A3 n3 c3) (.slice A4 n4 c4) (true) (d.left) (false) (d.ill))) mk (by rw [HMK.out]; rfl) w22 L22.kx.range0; try dsimp only at e0 e1 e2 e3 e4 k5 k6 k7 k8 k9 k10 k11 k12; have HL22 := Lib.hid L22; clear L22)
      | ((with_reducible refine wpList_box_slice (o := ⟨none, .store _ _ _, _, _, _, _⟩) rfl _ _ _ rfl w.heap.size 6 _ _ A6 _ c6 _ rfl rfl HL22.out.kx (kc6 _) size_rints ?_); intro w64 hw64; have L64 := HL22.out.put 6 (.slice A6 (nd + 1) c6) (KV.mk conv soft seq size opn (.slice A1 nz c1) (.slice A6 (nd + 1) c6) (.slice A3 n3 c3) (.slice A4 n4 c4) (true) (d.left) (false) (d.ill)) { d with L := L1, safe := d.safe ++ onlyK d.cached x.a.1, cached := outK d.cached x.a.1, done := d.done ++ [x.a.1] } rfl ⟨HL22.out.is.fg, HL22.out.is.fz, ⟨A6, nd + 1, c6, rfl, (by have h2 := HB.out.2.1.1; dsimp only; simp only [List.length_append, List.length_singleton]; omega), (by have h2 := HB.out.2; omega), HR6.out⟩, HL22.out.is.fs, HL22.out.is.fc, HL22.out.is.fsum, ⟨HL22.out.is.fnum.1, HL22.out.is.fnum.2.1, HL22.out.is.fnum.2.2.1, HL22.out.is.fnum.2.2.2.1, HL22.out.is.fnum.2.2.2.2.1, HL22.out.is.fnum.2.2.2.2.2⟩⟩; rw [← hw64] at L64; clear hw64 a0 a1 a2 a67 e0 e1 e2 e3 e4 k5 k6 k7 k8 k9 k10 k11 k12 hld; obtain ⟨a0, a1, a2, a67, _, _, _⟩ := L64.ax.act HP.out; obtain ⟨e0, e1, e2, e3, e4⟩ := L64.kx.kd; obtain ⟨k5, k6, k7, k8⟩ := L64.kx.kdv; obtain ⟨k9, k10, k11, k12⟩ := L64.kx.kdn; have hld := big_load0 Try.prog w.heap.size 0 (kcs (KV.mk conv soft seq size opn (.slice A1 nz c1) (.slice A6 (nd + 1) c6) (.slice A3 n3 c3) (.slice A4 n4 c4) (true) (d.left) (false) (d.ill))) mk (by rw [HMK.out]; rfl) w64 L64.kx.range0; try dsimp only at e0 e1 e2 e3 e4 k5 k6 k7 k8 k9 k10 k11 k12; have HL64 := Lib.hid L64; clear L64; have hkok : KOk (KV.mk conv soft seq size opn (.slice A1 nz c1) (.slice A6 (nd + 1) c6) (.slice A3 n3 c3) (.slice A4 n4 c4) (true) (d.left - 1) (d.left - 1 == 0) (d.ill)) := ⟨rfl, rfl, rfl, rfl⟩)
      | ((with_reducible refine wpList_box_int (o := ⟨none, .store _ _ _, _, _, _, _⟩) rfl _ _ _ rfl w.heap.size 10 _ _ (d.left - 1) _ rfl rfl HL64.out.kx (kc10 _) size_i64 ?_); intro w65 hw65; have L65 := HL64.out.put 10 (.int .i64 (d.left - 1)) (KV.mk conv soft seq size opn (.slice A1 nz c1) (.slice A6 (nd + 1) c6) (.slice A3 n3 c3) (.slice A4 n4 c4) (true) (d.left - 1) (false) (d.ill)) { d with L := L1, safe := d.safe ++ onlyK d.cached x.a.1, cached := outK d.cached x.a.1, done := d.done ++ [x.a.1], left := d.left - 1 } rfl ⟨HL64.out.is.fg, HL64.out.is.fz, HL64.out.is.fd, HL64.out.is.fs, HL64.out.is.fc, HL64.out.is.fsum, ⟨HL64.out.is.fnum.1, rfl, HL64.out.is.fnum.2.2.1, HL64.out.is.fnum.2.2.2.1, HL64.out.is.fnum.2.2.2.2.1, HL64.out.is.fnum.2.2.2.2.2⟩⟩; rw [← hw65] at L65; clear hw65 a0 a1 a2 a67 e0 e1 e2 e3 e4 k5 k6 k7 k8 k9 k10 k11 k12 hld; obtain ⟨a0, a1, a2, a67, _, _, _⟩ := L65.ax.act HP.out; obtain ⟨e0, e1, e2, e3, e4⟩ := L65.kx.kd; obtain ⟨k5, k6, k7, k8⟩ := L65.kx.kdv; obtain ⟨k9, k10, k11, k12⟩ := L65.kx.kdn; have hld := big_load0 Try.prog w.heap.size 0 (kcs (KV.mk conv soft seq size opn (.slice A1 nz c1) (.slice A6 (nd + 1) c6) (.slice A3 n3 c3) (.slice A4 n4 c4) (true) (d.left - 1) (false) (d.ill))) mk (by rw [HMK.out]; rfl) w65 L65.kx.range0; try dsimp only at e0 e1 e2 e3 e4 k5 k6 k7 k8 k9 k10 k11 k12; have HL65 := Lib.hid L65; clear L65)
      | ((with_reducible refine wpList_box_bool (o := ⟨none, .store _ _ _, _, _, _, _⟩) rfl _ _ _ rfl w.heap.size 11 _ _ (d.left - 1 == 0) _ rfl rfl HL65.out.kx (kc11 _) size_bool ?_); intro w66 hw66; have L66 := HL65.out.put 11 (.bool (d.left - 1 == 0)) (KV.mk conv soft seq size opn (.slice A1 nz c1) (.slice A6 (nd + 1) c6) (.slice A3 n3 c3) (.slice A4 n4 c4) (true) (d.left - 1) (d.left - 1 == 0) (d.ill)) { d with L := L1, safe := d.safe ++ onlyK d.cached x.a.1, cached := outK d.cached x.a.1, done := d.done ++ [x.a.1], left := d.left - 1, down := d.left - 1 == 0 } rfl ⟨HL65.out.is.fg, HL65.out.is.fz, HL65.out.is.fd, HL65.out.is.fs, HL65.out.is.fc, HL65.out.is.fsum, ⟨HL65.out.is.fnum.1, HL65.out.is.fnum.2.1, rfl, HL65.out.is.fnum.2.2.2.1, HL65.out.is.fnum.2.2.2.2.1, HL65.out.is.fnum.2.2.2.2.2⟩⟩; rw [← hw66] at L66; clear hw66 a0 a1 a2 a67 e0 e1 e2 e3 e4 k5 k6 k7 k8 k9 k10 k11 k12 hld; obtain ⟨a0, a1, a2, a67, _, _, _⟩ := L66.ax.act HP.out; obtain ⟨e0, e1, e2, e3, e4⟩ := L66.kx.kd; obtain ⟨k5, k6, k7, k8⟩ := L66.kx.kdv; obtain ⟨k9, k10, k11, k12⟩ := L66.kx.kdn; have hld := big_load0 Try.prog w.heap.size 0 (kcs (KV.mk conv soft seq size opn (.slice A1 nz c1) (.slice A6 (nd + 1) c6) (.slice A3 n3 c3) (.slice A4 n4 c4) (true) (d.left - 1) (d.left - 1 == 0) (d.ill))) mk (by rw [HMK.out]; rfl) w66 L66.kx.range0; try dsimp only at e0 e1 e2 e3 e4 k5 k6 k7 k8 k9 k10 k11 k12; have HL66 := Lib.hid L66; clear L66)
      | ((refine wpList_kd_store (o := ⟨none, .store _ _ _, _, _, _, _⟩) rfl _ _ rfl (w.heap.size + 1 + 1) (KV.mk conv soft seq size opn (.slice A1 nz c1) (.slice A6 (nd + 1) c6) (.slice A3 n3 c3) (.slice A4 n4 c4) (true) (d.left - 1) (d.left - 1 == 0) (d.ill)) kd0 hkok rfl rfl HL66.out.rx ?_); intro w9 hb9 hg9 hs9; clear hs9)
      | fail)
    have hldF := big_load0 Try.prog (w.heap.size + 1 + 1) 0 (kcs (KV.mk conv soft seq size opn (.slice A1 nz c1) (.slice A6 (nd + 1) c6) (.slice A3 n3 c3) (.slice A4 n4 c4) (true) (d.left - 1) (d.left - 1 == 0) (d.ill))) mk (by rw [HMK.out]; rfl) _ hb9.range0
    have HE := Lib.hid (HL66.out.done (M := N + 1) hg9 (by have h1 := HB.out.2.1; dsimp only; simp only [List.length_append, List.length_singleton]; omega) (by have h1 := HB.out.2.2; have h2 := HN3.out; have h3 := HK3.out; have h4 := HN4.out; have h5 := HK4.out; dsimp only; omega) (by have h1 := HB.out.2.2; (try dsimp only); omega))
    have hfin : DkIs (N + 1) conv soft seq size opn (fun k => Q k ∨ w.heap.size ≤ k) w9 (KV.mk conv soft seq size opn (.slice A1 nz c1) (.slice A6 (nd + 1) c6) (.slice A3 n3 c3) (.slice A4 n4 c4) (true) (d.left - 1) (d.left - 1 == 0) (d.ill)) ((finishK conv soft seq size opn d x.a).1) := by rw [show (finishK conv soft seq size opn d x.a).1 = { d with L := L1, safe := d.safe ++ onlyK d.cached x.a.1, cached := outK d.cached x.a.1, done := d.done ++ [x.a.1], left := d.left - 1, down := d.left - 1 == 0 } from (finishK_go hdn0.out HC.out).trans (tickK_yes (d := { d with L := L1, safe := d.safe ++ onlyK d.cached x.a.1, cached := outK d.cached x.a.1, done := d.done ++ [x.a.1] }) har0.out)]; exact HE.out.1
    generalize hR : kcs (KV.mk conv soft seq size opn (.slice A1 nz c1) (.slice A6 (nd + 1) c6) (.slice A3 n3 c3) (.slice A4 n4 c4) (true) (d.left - 1) (d.left - 1 == 0) (d.ill)) = R at hldF ⊢
    refine bodyPost_ret (v := .tuple #[.agg R.toArray, .int .i64 0]) (by simp [results, Try.results9, go_sem, hszk, hldF]) rfl ?_
    first
      | exact ⟨(KV.mk conv soft seq size opn (.slice A1 nz c1) (.slice A6 (nd + 1) c6) (.slice A3 n3 c3) (.slice A4 n4 c4) (true) (d.left - 1) (d.left - 1 == 0) (d.ill)), 0, by rw [hR], hfin, HE.out.2⟩
      | exact ⟨(KV.mk conv soft seq size opn (.slice A1 nz c1) (.slice A6 (nd + 1) c6) (.slice A3 n3 c3) (.slice A4 n4 c4) (true) (d.left - 1) (d.left - 1 == 0) (d.ill)), ⟨0, by rw [hR]⟩, hfin, HE.out.2⟩
  · go_simp
    refine (donly_any Ac nc cc d.cached x.a.1 _ HB.out.2.2.2.1 (by have := HB.out.2.2; omega) (HLd.out.is.crow rfl).2.1 (HLd.out.is.crow rfl).2.2.row).mono ?_
    rintro e w6 ⟨V, rfl, hown, hb⟩
    obtain ⟨A2, c2, hV⟩ := own_slice hown
    subst hV
    obtain ⟨n2, hn2⟩ : ∃ n, (onlyK d.cached x.a.1).length = n := ⟨_, rfl⟩
    rw [hn2] at hown ⊢
    have HR2 := Lib.hid (RowQ.own (A := A2) (xs := wcs (onlyK d.cached x.a.1)) hown (VV.far (Q := Q) HLd.out.sz))
    have HN2 := Lib.hid hn2
    have Lw6 := HLd.out.on hb
    clear hown hb hn2 
    obtain ⟨a0, a1, a2, a67, _, _, _⟩ := Lw6.ax.act HP.out; obtain ⟨e0, e1, e2, e3, e4⟩ := Lw6.kx.kd; obtain ⟨k5, k6, k7, k8⟩ := Lw6.kx.kdv; obtain ⟨k9, k10, k11, k12⟩ := Lw6.kx.kdn; have hld := big_load0 Try.prog w.heap.size 0 (kcs (KV.mk conv soft seq size opn (.slice A1 nz c1) (.slice Ad nd cd) (.slice As ns cs) (.slice Ac nc cc) (true) (d.left) (false) (d.ill))) mk (by rw [HMK.out]; rfl) w6 Lw6.kx.range0; try dsimp only at e0 e1 e2 e3 e4 k5 k6 k7 k8 k9 k10 k11 k12
    have HLw6 := Lib.hid Lw6
    clear Lw6
    have HK2 := Lib.hid (show n2 ≤ nc by rw [← HN2.out, ← HB.out.2.2.2.1]; exact List.length_filter_le _ _)
    go_wp2_with fail
    refine hK.out _ _ (SO.out _ HLw6.out) (fun hHeld => ?_)
    clear hK K
    try simp only [Act.put]
    refine wpAnyH_ready (rs := [1]) (by kernel_rfl) (by simp) ?_
    refine AllReadyH.cons (o := ⟨some 134, .load _ _, _, _, _, _⟩) rfl (fun K hK => ?_) AllReadyH.nil
    go_simp
    refine hK.out _ _ (SO.out _ HLw6.out) (fun hHeld => ?_)
    clear hK K
    try simp only [Act.put]
    clear a0 a1 a2 a67 e0 e1 e2 e3 e4 k5 k6 k7 k8 k9 k10 k11 k12 hld
    refine wpAnyH_ready (rs := [6]) (by kernel_rfl) (by simp) ?_
    refine AllReadyH.cons (o := ⟨some 139, .call _, _, _, _, _⟩) rfl (fun K hK => ?_) AllReadyH.nil
    go_simp
    refine (dcat_any As A2 ns cs n2 c2 d.safe (onlyK d.cached x.a.1) _ HB.out.2.2.1 HN2.out (by have := HB.out.2.2; omega) (by have := HK2.out; have := HB.out.2.2; omega) (HLw6.out.is.srow rfl).2.1 (wok_filter _ (HLw6.out.is.crow rfl).2.1) (HLw6.out.is.srow rfl).2.2.row HR2.out.row).mono ?_
    rintro e w7 ⟨V, rfl, hown, hb⟩
    obtain ⟨A3, c3, hV⟩ := own_slice hown
    subst hV
    obtain ⟨n3, hn3⟩ : ∃ n, (d.safe ++ onlyK d.cached x.a.1).length = n := ⟨_, rfl⟩
    rw [hn3] at hown ⊢
    have HR3 := Lib.hid (RowQ.own (A := A3) (xs := wcs (d.safe ++ onlyK d.cached x.a.1)) hown (VV.far (Q := Q) HLw6.out.sz))
    have HN3 := Lib.hid hn3
    have Lw7 := HLw6.out.on hb
    clear hown hb hn3 
    obtain ⟨a0, a1, a2, a67, _, _, _⟩ := Lw7.ax.act HP.out; obtain ⟨e0, e1, e2, e3, e4⟩ := Lw7.kx.kd; obtain ⟨k5, k6, k7, k8⟩ := Lw7.kx.kdv; obtain ⟨k9, k10, k11, k12⟩ := Lw7.kx.kdn; have hld := big_load0 Try.prog w.heap.size 0 (kcs (KV.mk conv soft seq size opn (.slice A1 nz c1) (.slice Ad nd cd) (.slice As ns cs) (.slice Ac nc cc) (true) (d.left) (false) (d.ill))) mk (by rw [HMK.out]; rfl) w7 Lw7.kx.range0; try dsimp only at e0 e1 e2 e3 e4 k5 k6 k7 k8 k9 k10 k11 k12
    have HLw7 := Lib.hid Lw7
    clear Lw7
    have HK3 := Lib.hid (show n3 = ns + n2 by rw [← HN3.out, List.length_append, HB.out.2.2.1, HN2.out])
    clear a0 a1 a2 a67 e0 e1 e2 e3 e4 k5 k6 k7 k8 k9 k10 k11 k12 hld
    go_wp2_with fail
    refine hK.out _ _ (SO.out _ HLw7.out) (fun hHeld => ?_)
    clear hK K
    try simp only [Act.put]
    refine wpAnyH_take (i := 7) (v := ?v7b) rfl (by kernel_rfl) (by kernel_rfl) (by kernel_rfl) (fun _ _ _ h => h) (Or.inl ⟨by rfl, ?hy7b⟩) (by assumption) ?rest7b
    case hy7b =>
      intro w hSw
      try dsimp only at hSw
      go_simp
      try with_reducible rfl
    try simp only [Act.put]
    refine wpAnyH_ready (rs := [8]) (by kernel_rfl) (by simp) ?_
    refine AllReadyH.cons (o := ⟨none, .store _ _ _, _, _, _, _⟩) rfl (fun K hK => ?_) AllReadyH.nil
    refine step_box_slice rfl _ _ _ rfl w.heap.size 7 _ _ A3 n3 c3 _ (by rfl) (by rfl) HLw7.out.kx (kc7 _) size_rcells ?_
    (intro w67 hw67; have L67 := HLw7.out.put 7 (.slice A3 n3 c3) (KV.mk conv soft seq size opn (.slice A1 nz c1) (.slice Ad nd cd) (.slice A3 n3 c3) (.slice Ac nc cc) (true) (d.left) (false) (d.ill)) { d with L := L1, safe := d.safe ++ onlyK d.cached x.a.1 } rfl ⟨HLw7.out.is.fg, HLw7.out.is.fz, HLw7.out.is.fd, ⟨A3, n3, c3, rfl, HN3.out, wok_append (HLw7.out.is.srow rfl).2.1 (wok_filter _ (HLw7.out.is.crow rfl).2.1), HR3.out⟩, HLw7.out.is.fc, (by have h1 := HN3.out; have h3 := HK3.out; have h4 := HK2.out; have h2 := HB.out.2.2; dsimp only; omega), ⟨HLw7.out.is.fnum.1, HLw7.out.is.fnum.2.1, HLw7.out.is.fnum.2.2.1, HLw7.out.is.fnum.2.2.2.1, HLw7.out.is.fnum.2.2.2.2.1, HLw7.out.is.fnum.2.2.2.2.2⟩⟩; rw [← hw67] at L67; clear hw67; obtain ⟨a0, a1, a2, a67, _, _, _⟩ := L67.ax.act HP.out; obtain ⟨e0, e1, e2, e3, e4⟩ := L67.kx.kd; obtain ⟨k5, k6, k7, k8⟩ := L67.kx.kdv; obtain ⟨k9, k10, k11, k12⟩ := L67.kx.kdn; have hld := big_load0 Try.prog w.heap.size 0 (kcs (KV.mk conv soft seq size opn (.slice A1 nz c1) (.slice Ad nd cd) (.slice A3 n3 c3) (.slice Ac nc cc) (true) (d.left) (false) (d.ill))) mk (by rw [HMK.out]; rfl) w67 L67.kx.range0; try dsimp only at e0 e1 e2 e3 e4 k5 k6 k7 k8 k9 k10 k11 k12; have HL67 := Lib.hid L67; clear L67)
    refine hK.out _ _ HL67.out.kx.kdv.2.2.2 (fun hHeld => ?_)
    clear hK K
    try simp only [Act.put]
    refine wpAnyH_done (by kernel_rfl) ?_ _
    go_wp2_with (first
      | fail)
    refine (dout_any Ac nc cc d.cached x.a.1 w67 HB.out.2.2.2.1 (by have := HB.out.2.2; omega) (HL67.out.is.crow rfl).2.1 (HL67.out.is.crow rfl).2.2.row).mono ?_
    rintro e w8 ⟨V, rfl, hown, hb⟩
    obtain ⟨A4, c4, hV⟩ := own_slice hown
    subst hV
    obtain ⟨n4, hn4⟩ : ∃ n, (outK d.cached x.a.1).length = n := ⟨_, rfl⟩
    rw [hn4] at hown ⊢
    have HR4 := Lib.hid (RowQ.own (A := A4) (xs := wcs (outK d.cached x.a.1)) hown (VV.far (Q := Q) HL67.out.sz))
    have HN4 := Lib.hid hn4
    have Lw8 := HL67.out.on hb
    clear hown hb hn4 a0 a1 a2 a67 e0 e1 e2 e3 e4 k5 k6 k7 k8 k9 k10 k11 k12 hld
    obtain ⟨a0, a1, a2, a67, _, _, _⟩ := Lw8.ax.act HP.out; obtain ⟨e0, e1, e2, e3, e4⟩ := Lw8.kx.kd; obtain ⟨k5, k6, k7, k8⟩ := Lw8.kx.kdv; obtain ⟨k9, k10, k11, k12⟩ := Lw8.kx.kdn; have hld := big_load0 Try.prog w.heap.size 0 (kcs (KV.mk conv soft seq size opn (.slice A1 nz c1) (.slice Ad nd cd) (.slice A3 n3 c3) (.slice Ac nc cc) (true) (d.left) (false) (d.ill))) mk (by rw [HMK.out]; rfl) w8 Lw8.kx.range0; try dsimp only at e0 e1 e2 e3 e4 k5 k6 k7 k8 k9 k10 k11 k12
    have HLw8 := Lib.hid Lw8
    clear Lw8
    have HK4 := Lib.hid (show n4 + n2 = nc by rw [← HN4.out, ← HN2.out, ← HB.out.2.2.2.1]; exact out_only_length _ _)
    go_wp2_with (first
      | ((with_reducible refine wpList_box_slice (o := ⟨none, .store _ _ _, _, _, _, _⟩) rfl _ _ _ rfl w.heap.size 8 _ _ A4 _ c4 _ rfl rfl HLw8.out.kx (kc8 _) size_rcells ?_); intro w68 hw68; have L68 := HLw8.out.put 8 (.slice A4 n4 c4) (KV.mk conv soft seq size opn (.slice A1 nz c1) (.slice Ad nd cd) (.slice A3 n3 c3) (.slice A4 n4 c4) (true) (d.left) (false) (d.ill)) { d with L := L1, safe := d.safe ++ onlyK d.cached x.a.1, cached := outK d.cached x.a.1 } rfl ⟨HLw8.out.is.fg, HLw8.out.is.fz, HLw8.out.is.fd, HLw8.out.is.fs, ⟨A4, n4, c4, rfl, HN4.out, wok_filter _ (HLw8.out.is.crow rfl).2.1, HR4.out⟩, (by have h1 := HN3.out; have h3 := HK3.out; have h4 := HN4.out; have h5 := HK4.out; have h2 := HB.out.2.2; dsimp only; omega), ⟨HLw8.out.is.fnum.1, HLw8.out.is.fnum.2.1, HLw8.out.is.fnum.2.2.1, HLw8.out.is.fnum.2.2.2.1, HLw8.out.is.fnum.2.2.2.2.1, HLw8.out.is.fnum.2.2.2.2.2⟩⟩; rw [← hw68] at L68; clear hw68 a0 a1 a2 a67 e0 e1 e2 e3 e4 k5 k6 k7 k8 k9 k10 k11 k12 hld; obtain ⟨a0, a1, a2, a67, _, _, _⟩ := L68.ax.act HP.out; obtain ⟨e0, e1, e2, e3, e4⟩ := L68.kx.kd; obtain ⟨k5, k6, k7, k8⟩ := L68.kx.kdv; obtain ⟨k9, k10, k11, k12⟩ := L68.kx.kdn; have hld := big_load0 Try.prog w.heap.size 0 (kcs (KV.mk conv soft seq size opn (.slice A1 nz c1) (.slice Ad nd cd) (.slice A3 n3 c3) (.slice A4 n4 c4) (true) (d.left) (false) (d.ill))) mk (by rw [HMK.out]; rfl) w68 L68.kx.range0; try dsimp only at e0 e1 e2 e3 e4 k5 k6 k7 k8 k9 k10 k11 k12; have HL68 := Lib.hid L68; clear L68; have k6a : (w68.alloc (.cells #[] 3)).cell? ⟨w.heap.size, 6, none⟩ = some (.slice Ad nd cd) := (HL68.out.on ((Below.refl _ _).alloc (Nat.le_refl _) (.cells #[] 3 (0, 0)))).kx.kdv.2.1)
      | (at_builtin; refine wpList_append_copy _ rfl _ _ _ rfl 3 _ 1 8 elemI rfl Ad nd cd rfl (ints d.done) (by simp [ints, HB.out.2.1.1]) (HL68.out.is.drow rfl).2.2.rd (fun u hu => by simp only [ints, List.mem_map] at hu; obtain ⟨_, _, rfl⟩ := hu; rfl) (by have := HB.out.2; simp only [maxLen]; omega) (by have := HB.out.2; omega) ?_; intro A5 c5 w21 hown5 hb5; have HB5 := Lib.hid hb5; have hs21 := hb5.size; have L21 := HL68.out.on hb5; clear hb5 k6a a0 a1 a2 a67 e0 e1 e2 e3 e4 k5 k6 k7 k8 k9 k10 k11 k12 hld; obtain ⟨a0, a1, a2, a67, _, _, _⟩ := L21.ax.act HP.out; obtain ⟨e0, e1, e2, e3, e4⟩ := L21.kx.kd; obtain ⟨k5, k6, k7, k8⟩ := L21.kx.kdv; obtain ⟨k9, k10, k11, k12⟩ := L21.kx.kdn; have hld := big_load0 Try.prog w.heap.size 0 (kcs (KV.mk conv soft seq size opn (.slice A1 nz c1) (.slice Ad nd cd) (.slice A3 n3 c3) (.slice A4 n4 c4) (true) (d.left) (false) (d.ill))) mk (by rw [HMK.out]; rfl) w21 L21.kx.range0; try dsimp only at e0 e1 e2 e3 e4 k5 k6 k7 k8 k9 k10 k11 k12; clear L21)
      | (at_builtin; refine wpList_append_one _ rfl _ _ _ rfl w68.heap.size 3 _ 8 elemI (.slice A5 nd c5) nd (ints d.done) rfl (.int .i64 x.a.1) rfl hown5 rfl (by have := HB.out.2; simp only [maxLen]; omega) (by have := HB.out.2; omega) hs21 ?_; intro v6 w22 hown6 hg6; obtain ⟨A6, c6, rfl⟩ := own_slice hown6; have hb22 := HB5.out.grown hg6 hs21 fun g hg => (hown5.lt g hg).1; have L22 := HL68.out.on hb22; have HR6 := Lib.hid (show RdQ (VV Q w) w22 A6 (ints (d.done ++ [x.a.1])) from (by rw [ints_snoc]; exact RdQ.own hown6 (VV.far (Q := Q) HL68.out.sz))); clear hb22 hown6 hg6 hown5 hs21 a0 a1 a2 a67 e0 e1 e2 e3 e4 k5 k6 k7 k8 k9 k10 k11 k12 hld; obtain ⟨a0, a1, a2, a67, _, _, _⟩ := L22.ax.act HP.out; obtain ⟨e0, e1, e2, e3, e4⟩ := L22.kx.kd; obtain ⟨k5, k6, k7, k8⟩ := L22.kx.kdv; obtain ⟨k9, k10, k11, k12⟩ := L22.kx.kdn; have hld := big_load0 Try.prog w.heap.size 0 (kcs (KV.mk conv soft seq size opn (.slice A1 nz c1) (.slice Ad nd cd) (.slice A3 n3 c3) (.slice A4 n4 c4) (true) (d.left) (false) (d.ill))) mk (by rw [HMK.out]; rfl) w22 L22.kx.range0; try dsimp only at e0 e1 e2 e3 e4 k5 k6 k7 k8 k9 k10 k11 k12; have HL22 := Lib.hid L22; clear L22)
      | ((with_reducible refine wpList_box_slice (o := ⟨none, .store _ _ _, _, _, _, _⟩) rfl _ _ _ rfl w.heap.size 6 _ _ A6 _ c6 _ rfl rfl HL22.out.kx (kc6 _) size_rints ?_); intro w69 hw69; have L69 := HL22.out.put 6 (.slice A6 (nd + 1) c6) (KV.mk conv soft seq size opn (.slice A1 nz c1) (.slice A6 (nd + 1) c6) (.slice A3 n3 c3) (.slice A4 n4 c4) (true) (d.left) (false) (d.ill)) { d with L := L1, safe := d.safe ++ onlyK d.cached x.a.1, cached := outK d.cached x.a.1, done := d.done ++ [x.a.1] } rfl ⟨HL22.out.is.fg, HL22.out.is.fz, ⟨A6, nd + 1, c6, rfl, (by have h2 := HB.out.2.1.1; dsimp only; simp only [List.length_append, List.length_singleton]; omega), (by have h2 := HB.out.2; omega), HR6.out⟩, HL22.out.is.fs, HL22.out.is.fc, HL22.out.is.fsum, ⟨HL22.out.is.fnum.1, HL22.out.is.fnum.2.1, HL22.out.is.fnum.2.2.1, HL22.out.is.fnum.2.2.2.1, HL22.out.is.fnum.2.2.2.2.1, HL22.out.is.fnum.2.2.2.2.2⟩⟩; rw [← hw69] at L69; clear hw69 a0 a1 a2 a67 e0 e1 e2 e3 e4 k5 k6 k7 k8 k9 k10 k11 k12 hld; obtain ⟨a0, a1, a2, a67, _, _, _⟩ := L69.ax.act HP.out; obtain ⟨e0, e1, e2, e3, e4⟩ := L69.kx.kd; obtain ⟨k5, k6, k7, k8⟩ := L69.kx.kdv; obtain ⟨k9, k10, k11, k12⟩ := L69.kx.kdn; have hld := big_load0 Try.prog w.heap.size 0 (kcs (KV.mk conv soft seq size opn (.slice A1 nz c1) (.slice A6 (nd + 1) c6) (.slice A3 n3 c3) (.slice A4 n4 c4) (true) (d.left) (false) (d.ill))) mk (by rw [HMK.out]; rfl) w69 L69.kx.range0; try dsimp only at e0 e1 e2 e3 e4 k5 k6 k7 k8 k9 k10 k11 k12; have HL69 := Lib.hid L69; clear L69; have hkok : KOk (KV.mk conv soft seq size opn (.slice A1 nz c1) (.slice A6 (nd + 1) c6) (.slice A3 n3 c3) (.slice A4 n4 c4) (true) (d.left - 1) (d.left - 1 == 0) (d.ill)) := ⟨rfl, rfl, rfl, rfl⟩)
      | ((with_reducible refine wpList_box_int (o := ⟨none, .store _ _ _, _, _, _, _⟩) rfl _ _ _ rfl w.heap.size 10 _ _ (d.left - 1) _ rfl rfl HL69.out.kx (kc10 _) size_i64 ?_); intro w70 hw70; have L70 := HL69.out.put 10 (.int .i64 (d.left - 1)) (KV.mk conv soft seq size opn (.slice A1 nz c1) (.slice A6 (nd + 1) c6) (.slice A3 n3 c3) (.slice A4 n4 c4) (true) (d.left - 1) (false) (d.ill)) { d with L := L1, safe := d.safe ++ onlyK d.cached x.a.1, cached := outK d.cached x.a.1, done := d.done ++ [x.a.1], left := d.left - 1 } rfl ⟨HL69.out.is.fg, HL69.out.is.fz, HL69.out.is.fd, HL69.out.is.fs, HL69.out.is.fc, HL69.out.is.fsum, ⟨HL69.out.is.fnum.1, rfl, HL69.out.is.fnum.2.2.1, HL69.out.is.fnum.2.2.2.1, HL69.out.is.fnum.2.2.2.2.1, HL69.out.is.fnum.2.2.2.2.2⟩⟩; rw [← hw70] at L70; clear hw70 a0 a1 a2 a67 e0 e1 e2 e3 e4 k5 k6 k7 k8 k9 k10 k11 k12 hld; obtain ⟨a0, a1, a2, a67, _, _, _⟩ := L70.ax.act HP.out; obtain ⟨e0, e1, e2, e3, e4⟩ := L70.kx.kd; obtain ⟨k5, k6, k7, k8⟩ := L70.kx.kdv; obtain ⟨k9, k10, k11, k12⟩ := L70.kx.kdn; have hld := big_load0 Try.prog w.heap.size 0 (kcs (KV.mk conv soft seq size opn (.slice A1 nz c1) (.slice A6 (nd + 1) c6) (.slice A3 n3 c3) (.slice A4 n4 c4) (true) (d.left - 1) (false) (d.ill))) mk (by rw [HMK.out]; rfl) w70 L70.kx.range0; try dsimp only at e0 e1 e2 e3 e4 k5 k6 k7 k8 k9 k10 k11 k12; have HL70 := Lib.hid L70; clear L70)
      | ((with_reducible refine wpList_box_bool (o := ⟨none, .store _ _ _, _, _, _, _⟩) rfl _ _ _ rfl w.heap.size 11 _ _ (d.left - 1 == 0) _ rfl rfl HL70.out.kx (kc11 _) size_bool ?_); intro w71 hw71; have L71 := HL70.out.put 11 (.bool (d.left - 1 == 0)) (KV.mk conv soft seq size opn (.slice A1 nz c1) (.slice A6 (nd + 1) c6) (.slice A3 n3 c3) (.slice A4 n4 c4) (true) (d.left - 1) (d.left - 1 == 0) (d.ill)) { d with L := L1, safe := d.safe ++ onlyK d.cached x.a.1, cached := outK d.cached x.a.1, done := d.done ++ [x.a.1], left := d.left - 1, down := d.left - 1 == 0 } rfl ⟨HL70.out.is.fg, HL70.out.is.fz, HL70.out.is.fd, HL70.out.is.fs, HL70.out.is.fc, HL70.out.is.fsum, ⟨HL70.out.is.fnum.1, HL70.out.is.fnum.2.1, rfl, HL70.out.is.fnum.2.2.2.1, HL70.out.is.fnum.2.2.2.2.1, HL70.out.is.fnum.2.2.2.2.2⟩⟩; rw [← hw71] at L71; clear hw71 a0 a1 a2 a67 e0 e1 e2 e3 e4 k5 k6 k7 k8 k9 k10 k11 k12 hld; obtain ⟨a0, a1, a2, a67, _, _, _⟩ := L71.ax.act HP.out; obtain ⟨e0, e1, e2, e3, e4⟩ := L71.kx.kd; obtain ⟨k5, k6, k7, k8⟩ := L71.kx.kdv; obtain ⟨k9, k10, k11, k12⟩ := L71.kx.kdn; have hld := big_load0 Try.prog w.heap.size 0 (kcs (KV.mk conv soft seq size opn (.slice A1 nz c1) (.slice A6 (nd + 1) c6) (.slice A3 n3 c3) (.slice A4 n4 c4) (true) (d.left - 1) (d.left - 1 == 0) (d.ill))) mk (by rw [HMK.out]; rfl) w71 L71.kx.range0; try dsimp only at e0 e1 e2 e3 e4 k5 k6 k7 k8 k9 k10 k11 k12; have HL71 := Lib.hid L71; clear L71)
      | ((refine wpList_kd_store (o := ⟨none, .store _ _ _, _, _, _, _⟩) rfl _ _ rfl (w.heap.size + 1 + 1) (KV.mk conv soft seq size opn (.slice A1 nz c1) (.slice A6 (nd + 1) c6) (.slice A3 n3 c3) (.slice A4 n4 c4) (true) (d.left - 1) (d.left - 1 == 0) (d.ill)) kd0 hkok rfl rfl HL71.out.rx ?_); intro w9 hb9 hg9 hs9; clear hs9)
      | fail)
    have hldF := big_load0 Try.prog (w.heap.size + 1 + 1) 0 (kcs (KV.mk conv soft seq size opn (.slice A1 nz c1) (.slice A6 (nd + 1) c6) (.slice A3 n3 c3) (.slice A4 n4 c4) (true) (d.left - 1) (d.left - 1 == 0) (d.ill))) mk (by rw [HMK.out]; rfl) _ hb9.range0
    have HE := Lib.hid (HL71.out.done (M := N + 1) hg9 (by have h1 := HB.out.2.1; dsimp only; simp only [List.length_append, List.length_singleton]; omega) (by have h1 := HB.out.2.2; have h2 := HN3.out; have h3 := HK3.out; have h4 := HN4.out; have h5 := HK4.out; dsimp only; omega) (by have h1 := HB.out.2.2; (try dsimp only); omega))
    have hfin : DkIs (N + 1) conv soft seq size opn (fun k => Q k ∨ w.heap.size ≤ k) w9 (KV.mk conv soft seq size opn (.slice A1 nz c1) (.slice A6 (nd + 1) c6) (.slice A3 n3 c3) (.slice A4 n4 c4) (true) (d.left - 1) (d.left - 1 == 0) (d.ill)) ((finishK conv soft seq size opn d x.a).1) := by rw [show (finishK conv soft seq size opn d x.a).1 = { d with L := L1, safe := d.safe ++ onlyK d.cached x.a.1, cached := outK d.cached x.a.1, done := d.done ++ [x.a.1], left := d.left - 1, down := d.left - 1 == 0 } from (finishK_go hdn0.out HC.out).trans (tickK_yes (d := { d with L := L1, safe := d.safe ++ onlyK d.cached x.a.1, cached := outK d.cached x.a.1, done := d.done ++ [x.a.1] }) har0.out)]; exact HE.out.1
    generalize hR : kcs (KV.mk conv soft seq size opn (.slice A1 nz c1) (.slice A6 (nd + 1) c6) (.slice A3 n3 c3) (.slice A4 n4 c4) (true) (d.left - 1) (d.left - 1 == 0) (d.ill)) = R at hldF ⊢
    refine bodyPost_ret (v := .tuple #[.agg R.toArray, .int .i64 0]) (by simp [results, Try.results9, go_sem, hszk, hldF]) rfl ?_
    first
      | exact ⟨(KV.mk conv soft seq size opn (.slice A1 nz c1) (.slice A6 (nd + 1) c6) (.slice A3 n3 c3) (.slice A4 n4 c4) (true) (d.left - 1) (d.left - 1 == 0) (d.ill)), 0, by rw [hR], hfin, HE.out.2⟩
      | exact ⟨(KV.mk conv soft seq size opn (.slice A1 nz c1) (.slice A6 (nd + 1) c6) (.slice A3 n3 c3) (.slice A4 n4 c4) (true) (d.left - 1) (d.left - 1 == 0) (d.ill)), ⟨0, by rw [hR]⟩, hfin, HE.out.2⟩
end Go.Proofs.Ytkdhibjmfanhcaa

/-
  DfM
-/
import Derived.Test.YtkdhibjmfanhcaaMg40
/-
  The document's answers for layer 5: Do, way by way.
-/
namespace Go.Proofs.Ytkdhibjmfanhcaa
open Go.RowKit Geom Zone Dev
set_option linter.unusedVariables false

set_option maxRecDepth 100000 in
set_option maxHeartbeats 4000000 in
theorem do_write_ill (N : Nat) (conv soft seq size opn : Int) (Q : Nat → Prop) (v : KV) (d : Dk) (x : AD) (w : World) (hN : N ≤ 900) (hok : Ok conv soft seq size opn) (hfit : Fit conv seq size opn d.L) (hI : DkIs N conv soft seq size opn Q w v d) (hx : AIn w x) (kw : Int) (hk : x.k % 9 = kw) (hkw : kw ≤ 3) (hdn : d.down = false) (hwhy : (act conv soft seq size opn d.L 0 x.a.1 x.a.2).2 ≠ 0) :
    Calls Try.prog 9 #[.agg (kcs v).toArray, .agg (acs x).toArray] w fun e w' => ∃ v' er, e = .returned (.tuple #[.agg (kcs v').toArray, .int .i64 er]) ∧ DkIs (N + 1) conv soft seq size opn (fun k => Q k ∨ w.heap.size ≤ k) w' v' ((writeK conv soft seq size opn d (x.a.1, x.a.2, x.p)).1) ∧ Below w.heap.size w w' := by
  obtain ⟨Az, nz, cz, Ad, nd, cd, As, ns, cs, Ac, nc, cc, rfl, ⟨hzl, hzn⟩, ⟨hdl, hdle⟩, hsl, hcl, hsum, hi0, hi1⟩ := hI.form
  rw [hdn] at hI ⊢
  obtain ⟨mk, hmk, hszk⟩ := big_size (P := Try.prog) (t := 36) (s := 13) (by kernel_rfl)
  have hmk0 : ¬ mk = 0 := by omega
  have HMK := Lib.hid hmk
  have HP := Lib.hid hx.p
  have HX := Lib.hid hx
  have HI := Lib.hid hI
  have HO := Lib.hid (And.intro hok hfit)
  have HB := Lib.hid (And.intro (And.intro hzl hzn) (And.intro (And.intro hdl hdle) (And.intro hsl (And.intro hcl (And.intro hsum (And.intro hi0 (And.intro hi1 hN)))))))
  have hk0 := hx.k0
  have hk1 := hx.k1
  have hi2 : d.ill ≤ 900 := by omega
  clear hmk hx hI hok hfit hzl hzn hdl hdle hsl hcl hsum hi1
  have hdn0 := Lib.hid hdn
  have hb7 : (kw == 7) = false := by simp; omega
  have hb8 : (kw == 8) = false := by simp; omega
  have hb4 : (kw == 4) = false := by simp; omega
  have hb5 : (kw == 5) = false := by simp; omega
  have hb6 : (kw == 6) = false := by simp; omega
  go_enter Try.func9, Try.ntmps9
  go_wp2_with (first
    | ((with_reducible refine wpList_kd_box (o := ⟨some 2, .box _ _, _, _, _, _⟩) rfl _ rfl (KV.mk conv soft seq size opn (.slice Az nz cz) (.slice Ad nd cd) (.slice As ns cs) (.slice Ac nc cc) (d.armed) (d.left) (false) (d.ill)) rfl ?_); intro w1 x0 hB1 hs1)
    | ((with_reducible refine wpList_act_box (o := ⟨some 3, .box _ _, _, _, _, _⟩) rfl _ rfl x rfl ?_); intro w2 x1 hB2 hs2)
    | ((with_reducible refine wpList_kd_alloc (o := ⟨some 4, .alloc _, _, _, _, _⟩) rfl rfl ?_); intro w3 x2 hB3 hs3; have L := DoX.start (M := 4000) HI.out (by have := HB.out.2.2.2.2.2.2; omega) x0 hB1 hs1 x1 hB2 hs2 x2 hB3 hs3; rw [hs2, hs1]; clear hs1 hs2 hs3 x0 x1 x2 hB1 hB2 hB3; obtain ⟨a0, a1, a2, a67, _, _, _⟩ := L.ax.act HP.out; obtain ⟨e0, e1, e2, e3, e4⟩ := L.kx.kd; obtain ⟨k5, k6, k7, k8⟩ := L.kx.kdv; obtain ⟨k9, k10, k11, k12⟩ := L.kx.kdn; have hld := big_load0 Try.prog w.heap.size 0 (kcs (KV.mk conv soft seq size opn (.slice Az nz cz) (.slice Ad nd cd) (.slice As ns cs) (.slice Ac nc cc) (d.armed) (d.left) (false) (d.ill))) mk (by rw [HMK.out]; rfl) w3 L.kx.range0; try dsimp only at e0 e1 e2 e3 e4 k5 k6 k7 k8 k9 k10 k11 k12; have HL := Lib.hid L; clear L)
    | fail)
  refine (ract_any conv soft seq size opn x.a.1 x.a.2 Az nz cz d.L w3 (by have h1 := HB.out.1.2; have h2 := HO.out.1.2.2.1; omega) HB.out.1.1 HO.out.1 HO.out.2 (HL.out.is.zrow rfl).2.2.rd 0 (by omega)).mono ?_
  rintro e w4 ⟨A1, c1, rfl, hr1, hb4, hpv⟩
  have HA := Lib.hid (And.intro (act_length conv soft seq size opn d.L 0 x.a.1 x.a.2) ((HL.out.is.zrow rfl).2.2.gives (zc_ne (by rw [HB.out.1.1]; have h1 := HB.out.1.2; have h2 := HO.out.1.1; have h3 := HO.out.1.2.1; omega)) hr1 hpv (VV.far (Q := Q) HL.out.sz)))
  have L4 := HL.out.on hb4
  clear hr1 hb4 hpv a0 a1 a2 a67 e0 e1 e2 e3 e4 k5 k6 k7 k8 k9 k10 k11 k12 hld
  generalize hact : act conv soft seq size opn d.L 0 x.a.1 x.a.2 = r at *
  have HC := Lib.hid hact
  clear hact
  obtain ⟨L1, why⟩ := r
  dsimp only at HA HC ⊢
  obtain ⟨a0, a1, a2, a67, _, _, _⟩ := L4.ax.act HP.out; obtain ⟨e0, e1, e2, e3, e4⟩ := L4.kx.kd; obtain ⟨k5, k6, k7, k8⟩ := L4.kx.kdv; obtain ⟨k9, k10, k11, k12⟩ := L4.kx.kdn; have hld := big_load0 Try.prog w.heap.size 0 (kcs (KV.mk conv soft seq size opn (.slice Az nz cz) (.slice Ad nd cd) (.slice As ns cs) (.slice Ac nc cc) (d.armed) (d.left) (false) (d.ill))) mk (by rw [HMK.out]; rfl) w4 L4.kx.range0; try dsimp only at e0 e1 e2 e3 e4 k5 k6 k7 k8 k9 k10 k11 k12
  have HL4 := Lib.hid L4
  clear L4
  have hw1 : (why == 0) = false := by simpa using hwhy
  have HWy := Lib.hid hwhy
  have hwhy2 : ¬ why = 0 := hwhy
  have hkok : KOk (KV.mk conv soft seq size opn (.slice Az nz cz) (.slice Ad nd cd) (.slice As ns cs) (.slice Ac nc cc) (d.armed) (d.left) (false) (d.ill + 1)) := ⟨rfl, rfl, rfl, rfl⟩
  go_wp2_with (first
    | ((with_reducible refine wpList_box_int (o := ⟨none, .store _ _ _, _, _, _, _⟩) rfl _ _ _ rfl w.heap.size 12 _ _ (d.ill + 1) _ rfl rfl HL4.out.kx (kc12 _) size_i64 ?_); intro w42 hw42; have L42 := HL4.out.put 12 (.int .i64 (d.ill + 1)) (KV.mk conv soft seq size opn (.slice Az nz cz) (.slice Ad nd cd) (.slice As ns cs) (.slice Ac nc cc) (d.armed) (d.left) (false) (d.ill + 1)) { d with ill := d.ill + 1 } rfl ⟨HL4.out.is.fg, HL4.out.is.fz, HL4.out.is.fd, HL4.out.is.fs, HL4.out.is.fc, HL4.out.is.fsum, ⟨HL4.out.is.fnum.1, HL4.out.is.fnum.2.1, HL4.out.is.fnum.2.2.1, rfl, (by dsimp only; omega), (by dsimp only; omega)⟩⟩; rw [← hw42] at L42; clear hw42 a0 a1 a2 a67 e0 e1 e2 e3 e4 k5 k6 k7 k8 k9 k10 k11 k12 hld; obtain ⟨a0, a1, a2, a67, _, _, _⟩ := L42.ax.act HP.out; obtain ⟨e0, e1, e2, e3, e4⟩ := L42.kx.kd; obtain ⟨k5, k6, k7, k8⟩ := L42.kx.kdv; obtain ⟨k9, k10, k11, k12⟩ := L42.kx.kdn; have hld := big_load0 Try.prog w.heap.size 0 (kcs (KV.mk conv soft seq size opn (.slice Az nz cz) (.slice Ad nd cd) (.slice As ns cs) (.slice Ac nc cc) (d.armed) (d.left) (false) (d.ill + 1))) mk (by rw [HMK.out]; rfl) w42 L42.kx.range0; try dsimp only at e0 e1 e2 e3 e4 k5 k6 k7 k8 k9 k10 k11 k12; have HL42 := Lib.hid L42; clear L42)
    | ((refine wpList_kd_store (o := ⟨none, .store _ _ _, _, _, _, _⟩) rfl _ _ rfl (w.heap.size + 1 + 1) (KV.mk conv soft seq size opn (.slice Az nz cz) (.slice Ad nd cd) (.slice As ns cs) (.slice Ac nc cc) (d.armed) (d.left) (false) (d.ill + 1)) kd0 hkok rfl rfl HL42.out.rx ?_); intro w9 hb9 hg9 hs9; clear hs9)
    | fail)
  have hldF := big_load0 Try.prog (w.heap.size + 1 + 1) 0 (kcs (KV.mk conv soft seq size opn (.slice Az nz cz) (.slice Ad nd cd) (.slice As ns cs) (.slice Ac nc cc) (d.armed) (d.left) (false) (d.ill + 1))) mk (by rw [HMK.out]; rfl) _ hb9.range0
  have HE := Lib.hid (HL42.out.done (M := N + 1) hg9 (by have h1 := HB.out.2.1; (try dsimp only); omega) (by have h1 := HB.out.2.2; (try dsimp only); omega) (by have h1 := HB.out.2.2; (try dsimp only); omega))
  have hfin : DkIs (N + 1) conv soft seq size opn (fun k => Q k ∨ w.heap.size ≤ k) w9 (KV.mk conv soft seq size opn (.slice Az nz cz) (.slice Ad nd cd) (.slice As ns cs) (.slice Ac nc cc) (d.armed) (d.left) (false) (d.ill + 1)) ((writeK conv soft seq size opn d (x.a.1, x.a.2, x.p)).1) := by rw [show (writeK conv soft seq size opn d (x.a.1, x.a.2, x.p)).1 = { d with ill := d.ill + 1 } by unfold writeK; rw [if_neg (by rw [hdn0.out]; simp)]; (try dsimp only); rw [HC.out, if_pos HWy.out]]; exact HE.out.1
  generalize hR : kcs (KV.mk conv soft seq size opn (.slice Az nz cz) (.slice Ad nd cd) (.slice As ns cs) (.slice Ac nc cc) (d.armed) (d.left) (false) (d.ill + 1)) = R at hldF ⊢
  refine bodyPost_ret (v := .tuple #[.agg R.toArray, .int .i64 why]) (by simp [results, Try.results9, go_sem, hszk, hldF]) rfl ?_
  first
    | exact ⟨(KV.mk conv soft seq size opn (.slice Az nz cz) (.slice Ad nd cd) (.slice As ns cs) (.slice Ac nc cc) (d.armed) (d.left) (false) (d.ill + 1)), why, by rw [hR], hfin, HE.out.2⟩
    | exact ⟨(KV.mk conv soft seq size opn (.slice Az nz cz) (.slice Ad nd cd) (.slice As ns cs) (.slice Ac nc cc) (d.armed) (d.left) (false) (d.ill + 1)), ⟨why, by rw [hR]⟩, hfin, HE.out.2⟩

set_option maxRecDepth 100000 in
set_option maxHeartbeats 4000000 in
theorem do_write_tick (N : Nat) (conv soft seq size opn : Int) (Q : Nat → Prop) (v : KV) (d : Dk) (x : AD) (w : World) (hN : N ≤ 900) (hok : Ok conv soft seq size opn) (hfit : Fit conv seq size opn d.L) (hI : DkIs N conv soft seq size opn Q w v d) (hx : AIn w x) (kw : Int) (hk : x.k % 9 = kw) (hkw : kw ≤ 3) (hdn : d.down = false) (hwhy : (act conv soft seq size opn d.L 0 x.a.1 x.a.2).2 = 0) (har : d.armed = true) (hl0 : 0 < d.left) (hl1 : d.left < 9223372036854775808) :
    Calls Try.prog 9 #[.agg (kcs v).toArray, .agg (acs x).toArray] w fun e w' => ∃ v' er, e = .returned (.tuple #[.agg (kcs v').toArray, .int .i64 er]) ∧ DkIs (N + 1) conv soft seq size opn (fun k => Q k ∨ w.heap.size ≤ k) w' v' ((writeK conv soft seq size opn d (x.a.1, x.a.2, x.p)).1) ∧ Below w.heap.size w w' := by
  obtain ⟨Az, nz, cz, Ad, nd, cd, As, ns, cs, Ac, nc, cc, rfl, ⟨hzl, hzn⟩, ⟨hdl, hdle⟩, hsl, hcl, hsum, hi0, hi1⟩ := hI.form
  rw [hdn] at hI ⊢
  rw [har] at hI ⊢
  obtain ⟨mk, hmk, hszk⟩ := big_size (P := Try.prog) (t := 36) (s := 13) (by kernel_rfl)
  have hmk0 : ¬ mk = 0 := by omega
  have HMK := Lib.hid hmk
  have HP := Lib.hid hx.p
  have HX := Lib.hid hx
  have HI := Lib.hid hI
  have HO := Lib.hid (And.intro hok hfit)
  have HB := Lib.hid (And.intro (And.intro hzl hzn) (And.intro (And.intro hdl hdle) (And.intro hsl (And.intro hcl (And.intro hsum (And.intro hi0 (And.intro hi1 hN)))))))
  have hk0 := hx.k0
  have hk1 := hx.k1
  have hi2 : d.ill ≤ 900 := by omega
  clear hmk hx hI hok hfit hzl hzn hdl hdle hsl hcl hsum hi1
  have hdn0 := Lib.hid hdn
  have har0 := Lib.hid har
  have hb7 : (kw == 7) = false := by simp; omega
  have hb8 : (kw == 8) = false := by simp; omega
  have hb4 : (kw == 4) = false := by simp; omega
  have hb5 : (kw == 5) = false := by simp; omega
  have hb6 : (kw == 6) = false := by simp; omega
  go_enter Try.func9, Try.ntmps9
  go_wp2_with (first
    | ((with_reducible refine wpList_kd_box (o := ⟨some 2, .box _ _, _, _, _, _⟩) rfl _ rfl (KV.mk conv soft seq size opn (.slice Az nz cz) (.slice Ad nd cd) (.slice As ns cs) (.slice Ac nc cc) (true) (d.left) (false) (d.ill)) rfl ?_); intro w1 x0 hB1 hs1)
    | ((with_reducible refine wpList_act_box (o := ⟨some 3, .box _ _, _, _, _, _⟩) rfl _ rfl x rfl ?_); intro w2 x1 hB2 hs2)
    | ((with_reducible refine wpList_kd_alloc (o := ⟨some 4, .alloc _, _, _, _, _⟩) rfl rfl ?_); intro w3 x2 hB3 hs3; have L := DoX.start (M := 4000) HI.out (by have := HB.out.2.2.2.2.2.2; omega) x0 hB1 hs1 x1 hB2 hs2 x2 hB3 hs3; rw [hs2, hs1]; clear hs1 hs2 hs3 x0 x1 x2 hB1 hB2 hB3; obtain ⟨a0, a1, a2, a67, _, _, _⟩ := L.ax.act HP.out; obtain ⟨e0, e1, e2, e3, e4⟩ := L.kx.kd; obtain ⟨k5, k6, k7, k8⟩ := L.kx.kdv; obtain ⟨k9, k10, k11, k12⟩ := L.kx.kdn; have hld := big_load0 Try.prog w.heap.size 0 (kcs (KV.mk conv soft seq size opn (.slice Az nz cz) (.slice Ad nd cd) (.slice As ns cs) (.slice Ac nc cc) (true) (d.left) (false) (d.ill))) mk (by rw [HMK.out]; rfl) w3 L.kx.range0; try dsimp only at e0 e1 e2 e3 e4 k5 k6 k7 k8 k9 k10 k11 k12; have HL := Lib.hid L; clear L)
    | fail)
  refine (ract_any conv soft seq size opn x.a.1 x.a.2 Az nz cz d.L w3 (by have h1 := HB.out.1.2; have h2 := HO.out.1.2.2.1; omega) HB.out.1.1 HO.out.1 HO.out.2 (HL.out.is.zrow rfl).2.2.rd 0 (by omega)).mono ?_
  rintro e w4 ⟨A1, c1, rfl, hr1, hb4, hpv⟩
  have HA := Lib.hid (And.intro (act_length conv soft seq size opn d.L 0 x.a.1 x.a.2) ((HL.out.is.zrow rfl).2.2.gives (zc_ne (by rw [HB.out.1.1]; have h1 := HB.out.1.2; have h2 := HO.out.1.1; have h3 := HO.out.1.2.1; omega)) hr1 hpv (VV.far (Q := Q) HL.out.sz)))
  have L4 := HL.out.on hb4
  clear hr1 hb4 hpv a0 a1 a2 a67 e0 e1 e2 e3 e4 k5 k6 k7 k8 k9 k10 k11 k12 hld
  generalize hact : act conv soft seq size opn d.L 0 x.a.1 x.a.2 = r at *
  have HC := Lib.hid hact
  clear hact
  obtain ⟨L1, why⟩ := r
  dsimp only at HA HC ⊢
  obtain ⟨a0, a1, a2, a67, _, _, _⟩ := L4.ax.act HP.out; obtain ⟨e0, e1, e2, e3, e4⟩ := L4.kx.kd; obtain ⟨k5, k6, k7, k8⟩ := L4.kx.kdv; obtain ⟨k9, k10, k11, k12⟩ := L4.kx.kdn; have hld := big_load0 Try.prog w.heap.size 0 (kcs (KV.mk conv soft seq size opn (.slice Az nz cz) (.slice Ad nd cd) (.slice As ns cs) (.slice Ac nc cc) (true) (d.left) (false) (d.ill))) mk (by rw [HMK.out]; rfl) w4 L4.kx.range0; try dsimp only at e0 e1 e2 e3 e4 k5 k6 k7 k8 k9 k10 k11 k12
  have HL4 := Lib.hid L4
  clear L4
  subst hwhy
  obtain ⟨m6, hm6, hszp⟩ := big_size (P := Try.prog) (t := 42) (s := 64) (by kernel_rfl)
  obtain ⟨m, hm, hszc⟩ := big_size (P := Try.prog) (t := 74) (s := 66) (by kernel_rfl)
  have hm60 : ¬ m6 = 0 := by omega
  have hm0 : ¬ m = 0 := by omega
  have hm1 : ¬ 16777216 < m := by omega
  have HM := Lib.hid (And.intro hm6 hm)
  clear hm6 hm
  have hwl : (wc (x.a.1, x.a.2, x.p)).length = 66 := wc_length HP.out
  have hlm : (wc (x.a.1, x.a.2, x.p)).length = m := by rw [hwl, HM.out.2]
  have hfold := fold_box Try.zeroCells74 66 (wc (x.a.1, x.a.2, x.p)) m (by rw [hwl, HM.out.2])
  have HPP := Lib.hid fun (W : World) (h : Box W (w.heap.size + 1) 44 (acs x)) => big_load0 Try.prog (w.heap.size + 1) 3 (bs x.p) m6 (by rw [bs_length, HP.out, HM.out.1]) W (h.actPage HP.out)
  have hpp := HPP.out _ HL4.out.ax
  go_wp2_with (first
    | ((with_reducible refine wpList_box_slice (o := ⟨none, .store _ _ _, _, _, _, _⟩) rfl _ _ _ rfl w.heap.size 5 _ _ A1 _ c1 _ rfl rfl HL4.out.kx (kc5 _) size_rzones ?_); intro w43 hw43; have L43 := HL4.out.put 5 (.slice A1 nz c1) (KV.mk conv soft seq size opn (.slice A1 nz c1) (.slice Ad nd cd) (.slice As ns cs) (.slice Ac nc cc) (true) (d.left) (false) (d.ill)) { d with L := L1 } rfl ⟨HL4.out.is.fg, ⟨A1, nz, c1, rfl, HA.out.1.trans HB.out.1.1, HB.out.1.2, HA.out.2⟩, HL4.out.is.fd, HL4.out.is.fs, HL4.out.is.fc, HL4.out.is.fsum, ⟨HL4.out.is.fnum.1, HL4.out.is.fnum.2.1, HL4.out.is.fnum.2.2.1, HL4.out.is.fnum.2.2.2.1, HL4.out.is.fnum.2.2.2.2.1, HL4.out.is.fnum.2.2.2.2.2⟩⟩; rw [← hw43] at L43; clear hw43 hpp a0 a1 a2 a67 e0 e1 e2 e3 e4 k5 k6 k7 k8 k9 k10 k11 k12 hld; obtain ⟨a0, a1, a2, a67, _, _, _⟩ := L43.ax.act HP.out; obtain ⟨e0, e1, e2, e3, e4⟩ := L43.kx.kd; obtain ⟨k5, k6, k7, k8⟩ := L43.kx.kdv; obtain ⟨k9, k10, k11, k12⟩ := L43.kx.kdn; have hld := big_load0 Try.prog w.heap.size 0 (kcs (KV.mk conv soft seq size opn (.slice A1 nz c1) (.slice Ad nd cd) (.slice As ns cs) (.slice Ac nc cc) (true) (d.left) (false) (d.ill))) mk (by rw [HMK.out]; rfl) w43 L43.kx.range0; try dsimp only at e0 e1 e2 e3 e4 k5 k6 k7 k8 k9 k10 k11 k12; have hpp := HPP.out _ L43.ax; have HL43 := Lib.hid L43; clear L43)
    | (with_reducible refine wpList_build_cell _ (o := ⟨_, .build _ _, _, _, _, _⟩) rfl _ _ rfl x.a.1 x.a.2 x.p HP.out rfl rfl ?_)
    | fail)
  clear hpp a0 a1 a2 a67 e0 e1 e2 e3 e4 k5 k6 k7 k8 k9 k10 k11 k12 hld
  have HL6 := Lib.hid (HL43.out.on ((Below.refl _ _).alloc (Nat.le_refl _) (.cells (wc (x.a.1, x.a.2, x.p)).toArray 74 (0, 0))))
  have HR6 := Lib.hid (row_one w43 (x.a.1, x.a.2, x.p))
  generalize World.alloc _ _ = w6 at *
  refine (dcat_any Ac _ nc cc 1 1 d.cached [(x.a.1, x.a.2, x.p)] w6 HB.out.2.2.2.1 rfl (by have := HB.out.2.2; omega) (by omega) (HL6.out.is.crow rfl).2.1 (fun c hc => by rw [List.mem_singleton.1 hc]; exact HP.out) (HL6.out.is.crow rfl).2.2.row HR6.out).mono ?_
  rintro e w7 ⟨V, rfl, hown, hb⟩
  obtain ⟨A2, c2, hV⟩ := own_slice hown
  subst hV
  obtain ⟨n2, hn2⟩ : ∃ n, (d.cached ++ [(x.a.1, x.a.2, x.p)]).length = n := ⟨_, rfl⟩
  rw [hn2] at hown ⊢
  have HR2 := Lib.hid (RowQ.own (A := A2) (xs := wcs (d.cached ++ [(x.a.1, x.a.2, x.p)])) hown (VV.far (Q := Q) HL6.out.sz))
  have HN2 := Lib.hid hn2
  have Lw7 := HL6.out.on hb
  clear hown hb hn2 
  obtain ⟨a0, a1, a2, a67, _, _, _⟩ := Lw7.ax.act HP.out; obtain ⟨e0, e1, e2, e3, e4⟩ := Lw7.kx.kd; obtain ⟨k5, k6, k7, k8⟩ := Lw7.kx.kdv; obtain ⟨k9, k10, k11, k12⟩ := Lw7.kx.kdn; have hld := big_load0 Try.prog w.heap.size 0 (kcs (KV.mk conv soft seq size opn (.slice A1 nz c1) (.slice Ad nd cd) (.slice As ns cs) (.slice Ac nc cc) (true) (d.left) (false) (d.ill))) mk (by rw [HMK.out]; rfl) w7 Lw7.kx.range0; try dsimp only at e0 e1 e2 e3 e4 k5 k6 k7 k8 k9 k10 k11 k12
  have HLw7 := Lib.hid Lw7
  clear Lw7
  have HK2 := Lib.hid (show n2 = nc + 1 by rw [← HN2.out, List.length_append, HB.out.2.2.2.1]; rfl)
  have hkok : KOk (KV.mk conv soft seq size opn (.slice A1 nz c1) (.slice Ad nd cd) (.slice As ns cs) (.slice A2 n2 c2) (true) (d.left - 1) (d.left - 1 == 0) (d.ill)) := ⟨rfl, rfl, rfl, rfl⟩
  go_wp2_with (first
    | ((with_reducible refine wpList_box_slice (o := ⟨none, .store _ _ _, _, _, _, _⟩) rfl _ _ _ rfl w.heap.size 8 _ _ A2 _ c2 _ rfl rfl HLw7.out.kx (kc8 _) size_rcells ?_); intro w44 hw44; have L44 := HLw7.out.put 8 (.slice A2 n2 c2) (KV.mk conv soft seq size opn (.slice A1 nz c1) (.slice Ad nd cd) (.slice As ns cs) (.slice A2 n2 c2) (true) (d.left) (false) (d.ill)) { d with L := L1, cached := d.cached ++ [(x.a.1, x.a.2, x.p)] } rfl ⟨HLw7.out.is.fg, HLw7.out.is.fz, HLw7.out.is.fd, HLw7.out.is.fs, ⟨A2, n2, c2, rfl, HN2.out, wok_append (HLw7.out.is.crow rfl).2.1 (fun c hc => by rw [List.mem_singleton.1 hc]; exact HP.out), HR2.out⟩, (by have h1 := HN2.out; have h3 := HK2.out; have h2 := HB.out.2.2; dsimp only; omega), ⟨HLw7.out.is.fnum.1, HLw7.out.is.fnum.2.1, HLw7.out.is.fnum.2.2.1, HLw7.out.is.fnum.2.2.2.1, HLw7.out.is.fnum.2.2.2.2.1, HLw7.out.is.fnum.2.2.2.2.2⟩⟩; rw [← hw44] at L44; clear hw44 a0 a1 a2 a67 e0 e1 e2 e3 e4 k5 k6 k7 k8 k9 k10 k11 k12 hld; obtain ⟨a0, a1, a2, a67, _, _, _⟩ := L44.ax.act HP.out; obtain ⟨e0, e1, e2, e3, e4⟩ := L44.kx.kd; obtain ⟨k5, k6, k7, k8⟩ := L44.kx.kdv; obtain ⟨k9, k10, k11, k12⟩ := L44.kx.kdn; have hld := big_load0 Try.prog w.heap.size 0 (kcs (KV.mk conv soft seq size opn (.slice A1 nz c1) (.slice Ad nd cd) (.slice As ns cs) (.slice A2 n2 c2) (true) (d.left) (false) (d.ill))) mk (by rw [HMK.out]; rfl) w44 L44.kx.range0; try dsimp only at e0 e1 e2 e3 e4 k5 k6 k7 k8 k9 k10 k11 k12; have HL44 := Lib.hid L44; clear L44)
    | ((with_reducible refine wpList_box_int (o := ⟨none, .store _ _ _, _, _, _, _⟩) rfl _ _ _ rfl w.heap.size 10 _ _ (d.left - 1) _ rfl rfl HL44.out.kx (kc10 _) size_i64 ?_); intro w45 hw45; have L45 := HL44.out.put 10 (.int .i64 (d.left - 1)) (KV.mk conv soft seq size opn (.slice A1 nz c1) (.slice Ad nd cd) (.slice As ns cs) (.slice A2 n2 c2) (true) (d.left - 1) (false) (d.ill)) { d with L := L1, cached := d.cached ++ [(x.a.1, x.a.2, x.p)], left := d.left - 1 } rfl ⟨HL44.out.is.fg, HL44.out.is.fz, HL44.out.is.fd, HL44.out.is.fs, HL44.out.is.fc, HL44.out.is.fsum, ⟨HL44.out.is.fnum.1, rfl, HL44.out.is.fnum.2.2.1, HL44.out.is.fnum.2.2.2.1, HL44.out.is.fnum.2.2.2.2.1, HL44.out.is.fnum.2.2.2.2.2⟩⟩; rw [← hw45] at L45; clear hw45 a0 a1 a2 a67 e0 e1 e2 e3 e4 k5 k6 k7 k8 k9 k10 k11 k12 hld; obtain ⟨a0, a1, a2, a67, _, _, _⟩ := L45.ax.act HP.out; obtain ⟨e0, e1, e2, e3, e4⟩ := L45.kx.kd; obtain ⟨k5, k6, k7, k8⟩ := L45.kx.kdv; obtain ⟨k9, k10, k11, k12⟩ := L45.kx.kdn; have hld := big_load0 Try.prog w.heap.size 0 (kcs (KV.mk conv soft seq size opn (.slice A1 nz c1) (.slice Ad nd cd) (.slice As ns cs) (.slice A2 n2 c2) (true) (d.left - 1) (false) (d.ill))) mk (by rw [HMK.out]; rfl) w45 L45.kx.range0; try dsimp only at e0 e1 e2 e3 e4 k5 k6 k7 k8 k9 k10 k11 k12; have HL45 := Lib.hid L45; clear L45)
    | ((with_reducible refine wpList_box_bool (o := ⟨none, .store _ _ _, _, _, _, _⟩) rfl _ _ _ rfl w.heap.size 11 _ _ (d.left - 1 == 0) _ rfl rfl HL45.out.kx (kc11 _) size_bool ?_); intro w46 hw46; have L46 := HL45.out.put 11 (.bool (d.left - 1 == 0)) (KV.mk conv soft seq size opn (.slice A1 nz c1) (.slice Ad nd cd) (.slice As ns cs) (.slice A2 n2 c2) (true) (d.left - 1) (d.left - 1 == 0) (d.ill)) { d with L := L1, cached := d.cached ++ [(x.a.1, x.a.2, x.p)], left := d.left - 1, down := d.left - 1 == 0 } rfl ⟨HL45.out.is.fg, HL45.out.is.fz, HL45.out.is.fd, HL45.out.is.fs, HL45.out.is.fc, HL45.out.is.fsum, ⟨HL45.out.is.fnum.1, HL45.out.is.fnum.2.1, rfl, HL45.out.is.fnum.2.2.2.1, HL45.out.is.fnum.2.2.2.2.1, HL45.out.is.fnum.2.2.2.2.2⟩⟩; rw [← hw46] at L46; clear hw46 a0 a1 a2 a67 e0 e1 e2 e3 e4 k5 k6 k7 k8 k9 k10 k11 k12 hld; obtain ⟨a0, a1, a2, a67, _, _, _⟩ := L46.ax.act HP.out; obtain ⟨e0, e1, e2, e3, e4⟩ := L46.kx.kd; obtain ⟨k5, k6, k7, k8⟩ := L46.kx.kdv; obtain ⟨k9, k10, k11, k12⟩ := L46.kx.kdn; have hld := big_load0 Try.prog w.heap.size 0 (kcs (KV.mk conv soft seq size opn (.slice A1 nz c1) (.slice Ad nd cd) (.slice As ns cs) (.slice A2 n2 c2) (true) (d.left - 1) (d.left - 1 == 0) (d.ill))) mk (by rw [HMK.out]; rfl) w46 L46.kx.range0; try dsimp only at e0 e1 e2 e3 e4 k5 k6 k7 k8 k9 k10 k11 k12; have HL46 := Lib.hid L46; clear L46)
    | ((refine wpList_kd_store (o := ⟨none, .store _ _ _, _, _, _, _⟩) rfl _ _ rfl (w.heap.size + 1 + 1) (KV.mk conv soft seq size opn (.slice A1 nz c1) (.slice Ad nd cd) (.slice As ns cs) (.slice A2 n2 c2) (true) (d.left - 1) (d.left - 1 == 0) (d.ill)) kd0 hkok rfl rfl HL46.out.rx ?_); intro w9 hb9 hg9 hs9; clear hs9)
    | fail)
  have hldF := big_load0 Try.prog (w.heap.size + 1 + 1) 0 (kcs (KV.mk conv soft seq size opn (.slice A1 nz c1) (.slice Ad nd cd) (.slice As ns cs) (.slice A2 n2 c2) (true) (d.left - 1) (d.left - 1 == 0) (d.ill))) mk (by rw [HMK.out]; rfl) _ hb9.range0
  have HE := Lib.hid (HL46.out.done (M := N + 1) hg9 (by have h1 := HB.out.2.1; (try dsimp only); omega) (by have h1 := HB.out.2.2; have h2 := HN2.out; have h3 := HK2.out; dsimp only; omega) (by have h1 := HB.out.2.2; (try dsimp only); omega))
  have hfin : DkIs (N + 1) conv soft seq size opn (fun k => Q k ∨ w.heap.size ≤ k) w9 (KV.mk conv soft seq size opn (.slice A1 nz c1) (.slice Ad nd cd) (.slice As ns cs) (.slice A2 n2 c2) (true) (d.left - 1) (d.left - 1 == 0) (d.ill)) ((writeK conv soft seq size opn d (x.a.1, x.a.2, x.p)).1) := by rw [show (writeK conv soft seq size opn d (x.a.1, x.a.2, x.p)).1 = { d with L := L1, cached := d.cached ++ [(x.a.1, x.a.2, x.p)], left := d.left - 1, down := d.left - 1 == 0 } by simp [writeK, tickK, hdn0.out, har0.out, HC.out]]; exact HE.out.1
  generalize hR : kcs (KV.mk conv soft seq size opn (.slice A1 nz c1) (.slice Ad nd cd) (.slice As ns cs) (.slice A2 n2 c2) (true) (d.left - 1) (d.left - 1 == 0) (d.ill)) = R at hldF ⊢
  refine bodyPost_ret (v := .tuple #[.agg R.toArray, .int .i64 0]) (by simp [results, Try.results9, go_sem, hszk, hldF]) rfl ?_
  first
    | exact ⟨(KV.mk conv soft seq size opn (.slice A1 nz c1) (.slice Ad nd cd) (.slice As ns cs) (.slice A2 n2 c2) (true) (d.left - 1) (d.left - 1 == 0) (d.ill)), 0, by rw [hR], hfin, HE.out.2⟩
    | exact ⟨(KV.mk conv soft seq size opn (.slice A1 nz c1) (.slice Ad nd cd) (.slice As ns cs) (.slice A2 n2 c2) (true) (d.left - 1) (d.left - 1 == 0) (d.ill)), ⟨0, by rw [hR]⟩, hfin, HE.out.2⟩

set_option maxRecDepth 100000 in
set_option maxHeartbeats 4000000 in
theorem do_write_still (N : Nat) (conv soft seq size opn : Int) (Q : Nat → Prop) (v : KV) (d : Dk) (x : AD) (w : World) (hN : N ≤ 900) (hok : Ok conv soft seq size opn) (hfit : Fit conv seq size opn d.L) (hI : DkIs N conv soft seq size opn Q w v d) (hx : AIn w x) (kw : Int) (hk : x.k % 9 = kw) (hkw : kw ≤ 3) (hdn : d.down = false) (hwhy : (act conv soft seq size opn d.L 0 x.a.1 x.a.2).2 = 0) (har : d.armed = false) :
    Calls Try.prog 9 #[.agg (kcs v).toArray, .agg (acs x).toArray] w fun e w' => ∃ v' er, e = .returned (.tuple #[.agg (kcs v').toArray, .int .i64 er]) ∧ DkIs (N + 1) conv soft seq size opn (fun k => Q k ∨ w.heap.size ≤ k) w' v' ((writeK conv soft seq size opn d (x.a.1, x.a.2, x.p)).1) ∧ Below w.heap.size w w' := by
  obtain ⟨Az, nz, cz, Ad, nd, cd, As, ns, cs, Ac, nc, cc, rfl, ⟨hzl, hzn⟩, ⟨hdl, hdle⟩, hsl, hcl, hsum, hi0, hi1⟩ := hI.form
  rw [hdn] at hI ⊢
  rw [har] at hI ⊢
  obtain ⟨mk, hmk, hszk⟩ := big_size (P := Try.prog) (t := 36) (s := 13) (by kernel_rfl)
  have hmk0 : ¬ mk = 0 := by omega
  have HMK := Lib.hid hmk
  have HP := Lib.hid hx.p
  have HX := Lib.hid hx
  have HI := Lib.hid hI
  have HO := Lib.hid (And.intro hok hfit)
  have HB := Lib.hid (And.intro (And.intro hzl hzn) (And.intro (And.intro hdl hdle) (And.intro hsl (And.intro hcl (And.intro hsum (And.intro hi0 (And.intro hi1 hN)))))))
  have hk0 := hx.k0
  have hk1 := hx.k1
  have hi2 : d.ill ≤ 900 := by omega
  clear hmk hx hI hok hfit hzl hzn hdl hdle hsl hcl hsum hi1
  have hdn0 := Lib.hid hdn
  have har0 := Lib.hid har
  have hb7 : (kw == 7) = false := by simp; omega
  have hb8 : (kw == 8) = false := by simp; omega
  have hb4 : (kw == 4) = false := by simp; omega
  have hb5 : (kw == 5) = false := by simp; omega
  have hb6 : (kw == 6) = false := by simp; omega
  go_enter Try.func9, Try.ntmps9
  go_wp2_with (first
    | ((with_reducible refine wpList_kd_box (o := ⟨some 2, .box _ _, _, _, _, _⟩) rfl _ rfl (KV.mk conv soft seq size opn (.slice Az nz cz) (.slice Ad nd cd) (.slice As ns cs) (.slice Ac nc cc) (false) (d.left) (false) (d.ill)) rfl ?_); intro w1 x0 hB1 hs1)
    | ((with_reducible refine wpList_act_box (o := ⟨some 3, .box _ _, _, _, _, _⟩) rfl _ rfl x rfl ?_); intro w2 x1 hB2 hs2)
    | ((with_reducible refine wpList_kd_alloc (o := ⟨some 4, .alloc _, _, _, _, _⟩) rfl rfl ?_); intro w3 x2 hB3 hs3; have L := DoX.start (M := 4000) HI.out (by have := HB.out.2.2.2.2.2.2; omega) x0 hB1 hs1 x1 hB2 hs2 x2 hB3 hs3; rw [hs2, hs1]; clear hs1 hs2 hs3 x0 x1 x2 hB1 hB2 hB3; obtain ⟨a0, a1, a2, a67, _, _, _⟩ := L.ax.act HP.out; obtain ⟨e0, e1, e2, e3, e4⟩ := L.kx.kd; obtain ⟨k5, k6, k7, k8⟩ := L.kx.kdv; obtain ⟨k9, k10, k11, k12⟩ := L.kx.kdn; have hld := big_load0 Try.prog w.heap.size 0 (kcs (KV.mk conv soft seq size opn (.slice Az nz cz) (.slice Ad nd cd) (.slice As ns cs) (.slice Ac nc cc) (false) (d.left) (false) (d.ill))) mk (by rw [HMK.out]; rfl) w3 L.kx.range0; try dsimp only at e0 e1 e2 e3 e4 k5 k6 k7 k8 k9 k10 k11 k12; have HL := Lib.hid L; clear L)
    | fail)
  refine (ract_any conv soft seq size opn x.a.1 x.a.2 Az nz cz d.L w3 (by have h1 := HB.out.1.2; have h2 := HO.out.1.2.2.1; omega) HB.out.1.1 HO.out.1 HO.out.2 (HL.out.is.zrow rfl).2.2.rd 0 (by omega)).mono ?_
  rintro e w4 ⟨A1, c1, rfl, hr1, hb4, hpv⟩
  have HA := Lib.hid (And.intro (act_length conv soft seq size opn d.L 0 x.a.1 x.a.2) ((HL.out.is.zrow rfl).2.2.gives (zc_ne (by rw [HB.out.1.1]; have h1 := HB.out.1.2; have h2 := HO.out.1.1; have h3 := HO.out.1.2.1; omega)) hr1 hpv (VV.far (Q := Q) HL.out.sz)))
  have L4 := HL.out.on hb4
  clear hr1 hb4 hpv a0 a1 a2 a67 e0 e1 e2 e3 e4 k5 k6 k7 k8 k9 k10 k11 k12 hld
  generalize hact : act conv soft seq size opn d.L 0 x.a.1 x.a.2 = r at *
  have HC := Lib.hid hact
  clear hact
  obtain ⟨L1, why⟩ := r
  dsimp only at HA HC ⊢
  obtain ⟨a0, a1, a2, a67, _, _, _⟩ := L4.ax.act HP.out; obtain ⟨e0, e1, e2, e3, e4⟩ := L4.kx.kd; obtain ⟨k5, k6, k7, k8⟩ := L4.kx.kdv; obtain ⟨k9, k10, k11, k12⟩ := L4.kx.kdn; have hld := big_load0 Try.prog w.heap.size 0 (kcs (KV.mk conv soft seq size opn (.slice Az nz cz) (.slice Ad nd cd) (.slice As ns cs) (.slice Ac nc cc) (false) (d.left) (false) (d.ill))) mk (by rw [HMK.out]; rfl) w4 L4.kx.range0; try dsimp only at e0 e1 e2 e3 e4 k5 k6 k7 k8 k9 k10 k11 k12
  have HL4 := Lib.hid L4
  clear L4
  subst hwhy
  obtain ⟨m6, hm6, hszp⟩ := big_size (P := Try.prog) (t := 42) (s := 64) (by kernel_rfl)
  obtain ⟨m, hm, hszc⟩ := big_size (P := Try.prog) (t := 74) (s := 66) (by kernel_rfl)
  have hm60 : ¬ m6 = 0 := by omega
  have hm0 : ¬ m = 0 := by omega
  have hm1 : ¬ 16777216 < m := by omega
  have HM := Lib.hid (And.intro hm6 hm)
  clear hm6 hm
  have hwl : (wc (x.a.1, x.a.2, x.p)).length = 66 := wc_length HP.out
  have hlm : (wc (x.a.1, x.a.2, x.p)).length = m := by rw [hwl, HM.out.2]
  have hfold := fold_box Try.zeroCells74 66 (wc (x.a.1, x.a.2, x.p)) m (by rw [hwl, HM.out.2])
  have HPP := Lib.hid fun (W : World) (h : Box W (w.heap.size + 1) 44 (acs x)) => big_load0 Try.prog (w.heap.size + 1) 3 (bs x.p) m6 (by rw [bs_length, HP.out, HM.out.1]) W (h.actPage HP.out)
  have hpp := HPP.out _ HL4.out.ax
  go_wp2_with (first
    | ((with_reducible refine wpList_box_slice (o := ⟨none, .store _ _ _, _, _, _, _⟩) rfl _ _ _ rfl w.heap.size 5 _ _ A1 _ c1 _ rfl rfl HL4.out.kx (kc5 _) size_rzones ?_); intro w47 hw47; have L47 := HL4.out.put 5 (.slice A1 nz c1) (KV.mk conv soft seq size opn (.slice A1 nz c1) (.slice Ad nd cd) (.slice As ns cs) (.slice Ac nc cc) (false) (d.left) (false) (d.ill)) { d with L := L1 } rfl ⟨HL4.out.is.fg, ⟨A1, nz, c1, rfl, HA.out.1.trans HB.out.1.1, HB.out.1.2, HA.out.2⟩, HL4.out.is.fd, HL4.out.is.fs, HL4.out.is.fc, HL4.out.is.fsum, ⟨HL4.out.is.fnum.1, HL4.out.is.fnum.2.1, HL4.out.is.fnum.2.2.1, HL4.out.is.fnum.2.2.2.1, HL4.out.is.fnum.2.2.2.2.1, HL4.out.is.fnum.2.2.2.2.2⟩⟩; rw [← hw47] at L47; clear hw47 hpp a0 a1 a2 a67 e0 e1 e2 e3 e4 k5 k6 k7 k8 k9 k10 k11 k12 hld; obtain ⟨a0, a1, a2, a67, _, _, _⟩ := L47.ax.act HP.out; obtain ⟨e0, e1, e2, e3, e4⟩ := L47.kx.kd; obtain ⟨k5, k6, k7, k8⟩ := L47.kx.kdv; obtain ⟨k9, k10, k11, k12⟩ := L47.kx.kdn; have hld := big_load0 Try.prog w.heap.size 0 (kcs (KV.mk conv soft seq size opn (.slice A1 nz c1) (.slice Ad nd cd) (.slice As ns cs) (.slice Ac nc cc) (false) (d.left) (false) (d.ill))) mk (by rw [HMK.out]; rfl) w47 L47.kx.range0; try dsimp only at e0 e1 e2 e3 e4 k5 k6 k7 k8 k9 k10 k11 k12; have hpp := HPP.out _ L47.ax; have HL47 := Lib.hid L47; clear L47)
    | (with_reducible refine wpList_build_cell _ (o := ⟨_, .build _ _, _, _, _, _⟩) rfl _ _ rfl x.a.1 x.a.2 x.p HP.out rfl rfl ?_)
    | fail)
  clear hpp a0 a1 a2 a67 e0 e1 e2 e3 e4 k5 k6 k7 k8 k9 k10 k11 k12 hld
  have HL6 := Lib.hid (HL47.out.on ((Below.refl _ _).alloc (Nat.le_refl _) (.cells (wc (x.a.1, x.a.2, x.p)).toArray 74 (0, 0))))
  have HR6 := Lib.hid (row_one w47 (x.a.1, x.a.2, x.p))
  generalize World.alloc _ _ = w6 at *
  refine (dcat_any Ac _ nc cc 1 1 d.cached [(x.a.1, x.a.2, x.p)] w6 HB.out.2.2.2.1 rfl (by have := HB.out.2.2; omega) (by omega) (HL6.out.is.crow rfl).2.1 (fun c hc => by rw [List.mem_singleton.1 hc]; exact HP.out) (HL6.out.is.crow rfl).2.2.row HR6.out).mono ?_
  rintro e w7 ⟨V, rfl, hown, hb⟩
  obtain ⟨A2, c2, hV⟩ := own_slice hown
  subst hV
  obtain ⟨n2, hn2⟩ : ∃ n, (d.cached ++ [(x.a.1, x.a.2, x.p)]).length = n := ⟨_, rfl⟩
  rw [hn2] at hown ⊢
  have HR2 := Lib.hid (RowQ.own (A := A2) (xs := wcs (d.cached ++ [(x.a.1, x.a.2, x.p)])) hown (VV.far (Q := Q) HL6.out.sz))
  have HN2 := Lib.hid hn2
  have Lw7 := HL6.out.on hb
  clear hown hb hn2 
  obtain ⟨a0, a1, a2, a67, _, _, _⟩ := Lw7.ax.act HP.out; obtain ⟨e0, e1, e2, e3, e4⟩ := Lw7.kx.kd; obtain ⟨k5, k6, k7, k8⟩ := Lw7.kx.kdv; obtain ⟨k9, k10, k11, k12⟩ := Lw7.kx.kdn; have hld := big_load0 Try.prog w.heap.size 0 (kcs (KV.mk conv soft seq size opn (.slice A1 nz c1) (.slice Ad nd cd) (.slice As ns cs) (.slice Ac nc cc) (false) (d.left) (false) (d.ill))) mk (by rw [HMK.out]; rfl) w7 Lw7.kx.range0; try dsimp only at e0 e1 e2 e3 e4 k5 k6 k7 k8 k9 k10 k11 k12
  have HLw7 := Lib.hid Lw7
  clear Lw7
  have HK2 := Lib.hid (show n2 = nc + 1 by rw [← HN2.out, List.length_append, HB.out.2.2.2.1]; rfl)
  have hkok : KOk (KV.mk conv soft seq size opn (.slice A1 nz c1) (.slice Ad nd cd) (.slice As ns cs) (.slice A2 n2 c2) (false) (d.left) (false) (d.ill)) := ⟨rfl, rfl, rfl, rfl⟩
  go_wp2_with (first
    | ((with_reducible refine wpList_box_slice (o := ⟨none, .store _ _ _, _, _, _, _⟩) rfl _ _ _ rfl w.heap.size 8 _ _ A2 _ c2 _ rfl rfl HLw7.out.kx (kc8 _) size_rcells ?_); intro w48 hw48; have L48 := HLw7.out.put 8 (.slice A2 n2 c2) (KV.mk conv soft seq size opn (.slice A1 nz c1) (.slice Ad nd cd) (.slice As ns cs) (.slice A2 n2 c2) (false) (d.left) (false) (d.ill)) { d with L := L1, cached := d.cached ++ [(x.a.1, x.a.2, x.p)] } rfl ⟨HLw7.out.is.fg, HLw7.out.is.fz, HLw7.out.is.fd, HLw7.out.is.fs, ⟨A2, n2, c2, rfl, HN2.out, wok_append (HLw7.out.is.crow rfl).2.1 (fun c hc => by rw [List.mem_singleton.1 hc]; exact HP.out), HR2.out⟩, (by have h1 := HN2.out; have h3 := HK2.out; have h2 := HB.out.2.2; dsimp only; omega), ⟨HLw7.out.is.fnum.1, HLw7.out.is.fnum.2.1, HLw7.out.is.fnum.2.2.1, HLw7.out.is.fnum.2.2.2.1, HLw7.out.is.fnum.2.2.2.2.1, HLw7.out.is.fnum.2.2.2.2.2⟩⟩; rw [← hw48] at L48; clear hw48 a0 a1 a2 a67 e0 e1 e2 e3 e4 k5 k6 k7 k8 k9 k10 k11 k12 hld; obtain ⟨a0, a1, a2, a67, _, _, _⟩ := L48.ax.act HP.out; obtain ⟨e0, e1, e2, e3, e4⟩ := L48.kx.kd; obtain ⟨k5, k6, k7, k8⟩ := L48.kx.kdv; obtain ⟨k9, k10, k11, k12⟩ := L48.kx.kdn; have hld := big_load0 Try.prog w.heap.size 0 (kcs (KV.mk conv soft seq size opn (.slice A1 nz c1) (.slice Ad nd cd) (.slice As ns cs) (.slice A2 n2 c2) (false) (d.left) (false) (d.ill))) mk (by rw [HMK.out]; rfl) w48 L48.kx.range0; try dsimp only at e0 e1 e2 e3 e4 k5 k6 k7 k8 k9 k10 k11 k12; have HL48 := Lib.hid L48; clear L48)
    | ((refine wpList_kd_store (o := ⟨none, .store _ _ _, _, _, _, _⟩) rfl _ _ rfl (w.heap.size + 1 + 1) (KV.mk conv soft seq size opn (.slice A1 nz c1) (.slice Ad nd cd) (.slice As ns cs) (.slice A2 n2 c2) (false) (d.left) (false) (d.ill)) kd0 hkok rfl rfl HL48.out.rx ?_); intro w9 hb9 hg9 hs9; clear hs9)
    | fail)
  have hldF := big_load0 Try.prog (w.heap.size + 1 + 1) 0 (kcs (KV.mk conv soft seq size opn (.slice A1 nz c1) (.slice Ad nd cd) (.slice As ns cs) (.slice A2 n2 c2) (false) (d.left) (false) (d.ill))) mk (by rw [HMK.out]; rfl) _ hb9.range0
  have HE := Lib.hid (HL48.out.done (M := N + 1) hg9 (by have h1 := HB.out.2.1; (try dsimp only); omega) (by have h1 := HB.out.2.2; have h2 := HN2.out; have h3 := HK2.out; dsimp only; omega) (by have h1 := HB.out.2.2; (try dsimp only); omega))
  have hfin : DkIs (N + 1) conv soft seq size opn (fun k => Q k ∨ w.heap.size ≤ k) w9 (KV.mk conv soft seq size opn (.slice A1 nz c1) (.slice Ad nd cd) (.slice As ns cs) (.slice A2 n2 c2) (false) (d.left) (false) (d.ill)) ((writeK conv soft seq size opn d (x.a.1, x.a.2, x.p)).1) := by rw [show (writeK conv soft seq size opn d (x.a.1, x.a.2, x.p)).1 = { d with L := L1, cached := d.cached ++ [(x.a.1, x.a.2, x.p)] } by simp [writeK, tickK, hdn0.out, har0.out, HC.out]]; exact HE.out.1
  generalize hR : kcs (KV.mk conv soft seq size opn (.slice A1 nz c1) (.slice Ad nd cd) (.slice As ns cs) (.slice A2 n2 c2) (false) (d.left) (false) (d.ill)) = R at hldF ⊢
  refine bodyPost_ret (v := .tuple #[.agg R.toArray, .int .i64 0]) (by simp [results, Try.results9, go_sem, hszk, hldF]) rfl ?_
  first
    | exact ⟨(KV.mk conv soft seq size opn (.slice A1 nz c1) (.slice Ad nd cd) (.slice As ns cs) (.slice A2 n2 c2) (false) (d.left) (false) (d.ill)), 0, by rw [hR], hfin, HE.out.2⟩
    | exact ⟨(KV.mk conv soft seq size opn (.slice A1 nz c1) (.slice Ad nd cd) (.slice As ns cs) (.slice A2 n2 c2) (false) (d.left) (false) (d.ill)), ⟨0, by rw [hR]⟩, hfin, HE.out.2⟩
end Go.Proofs.Ytkdhibjmfanhcaa

/-
  DfN
-/
import Derived.Test.YtkdhibjmfanhcaaMg40
/-
  The document's answers for layer 5: Do, way by way.
-/
namespace Go.Proofs.Ytkdhibjmfanhcaa
open Go.RowKit Geom Zone Dev
set_option linter.unusedVariables false

set_option maxRecDepth 100000 in
set_option maxHeartbeats 4000000 in
theorem do_reset_ill (N : Nat) (conv soft seq size opn : Int) (Q : Nat → Prop) (v : KV) (d : Dk) (x : AD) (w : World) (hN : N ≤ 900) (hok : Ok conv soft seq size opn) (hfit : Fit conv seq size opn d.L) (hI : DkIs N conv soft seq size opn Q w v d) (hx : AIn w x) (hk : x.k % 9 = 4) (hdn : d.down = false) (hwhy : (act conv soft seq size opn d.L 2 x.a.1 x.a.2).2 ≠ 0) :
    Calls Try.prog 9 #[.agg (kcs v).toArray, .agg (acs x).toArray] w fun e w' => ∃ v' er, e = .returned (.tuple #[.agg (kcs v').toArray, .int .i64 er]) ∧ DkIs (N + 1) conv soft seq size opn (fun k => Q k ∨ w.heap.size ≤ k) w' v' ((resetK conv soft seq size opn d x.a).1) ∧ Below w.heap.size w w' := by
  obtain ⟨Az, nz, cz, Ad, nd, cd, As, ns, cs, Ac, nc, cc, rfl, ⟨hzl, hzn⟩, ⟨hdl, hdle⟩, hsl, hcl, hsum, hi0, hi1⟩ := hI.form
  rw [hdn] at hI ⊢
  obtain ⟨mk, hmk, hszk⟩ := big_size (P := Try.prog) (t := 36) (s := 13) (by kernel_rfl)
  have hmk0 : ¬ mk = 0 := by omega
  have HMK := Lib.hid hmk
  have HP := Lib.hid hx.p
  have HX := Lib.hid hx
  have HI := Lib.hid hI
  have HO := Lib.hid (And.intro hok hfit)
  have HB := Lib.hid (And.intro (And.intro hzl hzn) (And.intro (And.intro hdl hdle) (And.intro hsl (And.intro hcl (And.intro hsum (And.intro hi0 (And.intro hi1 hN)))))))
  have hk0 := hx.k0
  have hk1 := hx.k1
  have hi2 : d.ill ≤ 900 := by omega
  clear hmk hx hI hok hfit hzl hzn hdl hdle hsl hcl hsum hi1
  have hdn0 := Lib.hid hdn
  go_enter Try.func9, Try.ntmps9
  go_wp2_with (first
    | ((with_reducible refine wpList_kd_box (o := ⟨some 2, .box _ _, _, _, _, _⟩) rfl _ rfl (KV.mk conv soft seq size opn (.slice Az nz cz) (.slice Ad nd cd) (.slice As ns cs) (.slice Ac nc cc) (d.armed) (d.left) (false) (d.ill)) rfl ?_); intro w1 x0 hB1 hs1)
    | ((with_reducible refine wpList_act_box (o := ⟨some 3, .box _ _, _, _, _, _⟩) rfl _ rfl x rfl ?_); intro w2 x1 hB2 hs2)
    | ((with_reducible refine wpList_kd_alloc (o := ⟨some 4, .alloc _, _, _, _, _⟩) rfl rfl ?_); intro w3 x2 hB3 hs3; have L := DoX.start (M := 4000) HI.out (by have := HB.out.2.2.2.2.2.2; omega) x0 hB1 hs1 x1 hB2 hs2 x2 hB3 hs3; rw [hs2, hs1]; clear hs1 hs2 hs3 x0 x1 x2 hB1 hB2 hB3; obtain ⟨a0, a1, a2, a67, _, _, _⟩ := L.ax.act HP.out; obtain ⟨e0, e1, e2, e3, e4⟩ := L.kx.kd; obtain ⟨k5, k6, k7, k8⟩ := L.kx.kdv; obtain ⟨k9, k10, k11, k12⟩ := L.kx.kdn; have hld := big_load0 Try.prog w.heap.size 0 (kcs (KV.mk conv soft seq size opn (.slice Az nz cz) (.slice Ad nd cd) (.slice As ns cs) (.slice Ac nc cc) (d.armed) (d.left) (false) (d.ill))) mk (by rw [HMK.out]; rfl) w3 L.kx.range0; try dsimp only at e0 e1 e2 e3 e4 k5 k6 k7 k8 k9 k10 k11 k12; have HL := Lib.hid L; clear L)
    | fail)
  refine (ract_any conv soft seq size opn x.a.1 x.a.2 Az nz cz d.L w3 (by have h1 := HB.out.1.2; have h2 := HO.out.1.2.2.1; omega) HB.out.1.1 HO.out.1 HO.out.2 (HL.out.is.zrow rfl).2.2.rd 2 (by omega)).mono ?_
  rintro e w4 ⟨A1, c1, rfl, hr1, hb4, hpv⟩
  have HA := Lib.hid (And.intro (act_length conv soft seq size opn d.L 2 x.a.1 x.a.2) ((HL.out.is.zrow rfl).2.2.gives (zc_ne (by rw [HB.out.1.1]; have h1 := HB.out.1.2; have h2 := HO.out.1.1; have h3 := HO.out.1.2.1; omega)) hr1 hpv (VV.far (Q := Q) HL.out.sz)))
  have L4 := HL.out.on hb4
  clear hr1 hb4 hpv a0 a1 a2 a67 e0 e1 e2 e3 e4 k5 k6 k7 k8 k9 k10 k11 k12 hld
  generalize hact : act conv soft seq size opn d.L 2 x.a.1 x.a.2 = r at *
  have HC := Lib.hid hact
  clear hact
  obtain ⟨L1, why⟩ := r
  dsimp only at HA HC ⊢
  obtain ⟨a0, a1, a2, a67, _, _, _⟩ := L4.ax.act HP.out; obtain ⟨e0, e1, e2, e3, e4⟩ := L4.kx.kd; obtain ⟨k5, k6, k7, k8⟩ := L4.kx.kdv; obtain ⟨k9, k10, k11, k12⟩ := L4.kx.kdn; have hld := big_load0 Try.prog w.heap.size 0 (kcs (KV.mk conv soft seq size opn (.slice Az nz cz) (.slice Ad nd cd) (.slice As ns cs) (.slice Ac nc cc) (d.armed) (d.left) (false) (d.ill))) mk (by rw [HMK.out]; rfl) w4 L4.kx.range0; try dsimp only at e0 e1 e2 e3 e4 k5 k6 k7 k8 k9 k10 k11 k12
  have HL4 := Lib.hid L4
  clear L4
  have hw1 : (why == 0) = false := by simpa using hwhy
  have HWy := Lib.hid hwhy
  have hwhy2 : ¬ why = 0 := hwhy
  have hkok : KOk (KV.mk conv soft seq size opn (.slice Az nz cz) (.slice Ad nd cd) (.slice As ns cs) (.slice Ac nc cc) (d.armed) (d.left) (false) (d.ill + 1)) := ⟨rfl, rfl, rfl, rfl⟩
  go_wp2_with (first
    | ((with_reducible refine wpList_box_int (o := ⟨none, .store _ _ _, _, _, _, _⟩) rfl _ _ _ rfl w.heap.size 12 _ _ (d.ill + 1) _ rfl rfl HL4.out.kx (kc12 _) size_i64 ?_); intro w49 hw49; have L49 := HL4.out.put 12 (.int .i64 (d.ill + 1)) (KV.mk conv soft seq size opn (.slice Az nz cz) (.slice Ad nd cd) (.slice As ns cs) (.slice Ac nc cc) (d.armed) (d.left) (false) (d.ill + 1)) { d with ill := d.ill + 1 } rfl ⟨HL4.out.is.fg, HL4.out.is.fz, HL4.out.is.fd, HL4.out.is.fs, HL4.out.is.fc, HL4.out.is.fsum, ⟨HL4.out.is.fnum.1, HL4.out.is.fnum.2.1, HL4.out.is.fnum.2.2.1, rfl, (by dsimp only; omega), (by dsimp only; omega)⟩⟩; rw [← hw49] at L49; clear hw49 a0 a1 a2 a67 e0 e1 e2 e3 e4 k5 k6 k7 k8 k9 k10 k11 k12 hld; obtain ⟨a0, a1, a2, a67, _, _, _⟩ := L49.ax.act HP.out; obtain ⟨e0, e1, e2, e3, e4⟩ := L49.kx.kd; obtain ⟨k5, k6, k7, k8⟩ := L49.kx.kdv; obtain ⟨k9, k10, k11, k12⟩ := L49.kx.kdn; have hld := big_load0 Try.prog w.heap.size 0 (kcs (KV.mk conv soft seq size opn (.slice Az nz cz) (.slice Ad nd cd) (.slice As ns cs) (.slice Ac nc cc) (d.armed) (d.left) (false) (d.ill + 1))) mk (by rw [HMK.out]; rfl) w49 L49.kx.range0; try dsimp only at e0 e1 e2 e3 e4 k5 k6 k7 k8 k9 k10 k11 k12; have HL49 := Lib.hid L49; clear L49)
    | ((refine wpList_kd_store (o := ⟨none, .store _ _ _, _, _, _, _⟩) rfl _ _ rfl (w.heap.size + 1 + 1) (KV.mk conv soft seq size opn (.slice Az nz cz) (.slice Ad nd cd) (.slice As ns cs) (.slice Ac nc cc) (d.armed) (d.left) (false) (d.ill + 1)) kd0 hkok rfl rfl HL49.out.rx ?_); intro w9 hb9 hg9 hs9; clear hs9)
    | fail)
  have hldF := big_load0 Try.prog (w.heap.size + 1 + 1) 0 (kcs (KV.mk conv soft seq size opn (.slice Az nz cz) (.slice Ad nd cd) (.slice As ns cs) (.slice Ac nc cc) (d.armed) (d.left) (false) (d.ill + 1))) mk (by rw [HMK.out]; rfl) _ hb9.range0
  have HE := Lib.hid (HL49.out.done (M := N + 1) hg9 (by have h1 := HB.out.2.1; (try dsimp only); omega) (by have h1 := HB.out.2.2; (try dsimp only); omega) (by have h1 := HB.out.2.2; (try dsimp only); omega))
  have hfin : DkIs (N + 1) conv soft seq size opn (fun k => Q k ∨ w.heap.size ≤ k) w9 (KV.mk conv soft seq size opn (.slice Az nz cz) (.slice Ad nd cd) (.slice As ns cs) (.slice Ac nc cc) (d.armed) (d.left) (false) (d.ill + 1)) ((resetK conv soft seq size opn d x.a).1) := by rw [show (resetK conv soft seq size opn d x.a).1 = { d with ill := d.ill + 1 } by unfold resetK; rw [if_neg (by rw [hdn0.out]; simp)]; (try dsimp only); rw [HC.out, if_pos HWy.out]]; exact HE.out.1
  generalize hR : kcs (KV.mk conv soft seq size opn (.slice Az nz cz) (.slice Ad nd cd) (.slice As ns cs) (.slice Ac nc cc) (d.armed) (d.left) (false) (d.ill + 1)) = R at hldF ⊢
  refine bodyPost_ret (v := .tuple #[.agg R.toArray, .int .i64 why]) (by simp [results, Try.results9, go_sem, hszk, hldF]) rfl ?_
  first
    | exact ⟨(KV.mk conv soft seq size opn (.slice Az nz cz) (.slice Ad nd cd) (.slice As ns cs) (.slice Ac nc cc) (d.armed) (d.left) (false) (d.ill + 1)), why, by rw [hR], hfin, HE.out.2⟩
    | exact ⟨(KV.mk conv soft seq size opn (.slice Az nz cz) (.slice Ad nd cd) (.slice As ns cs) (.slice Ac nc cc) (d.armed) (d.left) (false) (d.ill + 1)), ⟨why, by rw [hR]⟩, hfin, HE.out.2⟩

set_option maxRecDepth 100000 in
set_option maxHeartbeats 4000000 in
theorem do_reset_tick (N : Nat) (conv soft seq size opn : Int) (Q : Nat → Prop) (v : KV) (d : Dk) (x : AD) (w : World) (hN : N ≤ 900) (hok : Ok conv soft seq size opn) (hfit : Fit conv seq size opn d.L) (hI : DkIs N conv soft seq size opn Q w v d) (hx : AIn w x) (hk : x.k % 9 = 4) (hdn : d.down = false) (hwhy : (act conv soft seq size opn d.L 2 x.a.1 x.a.2).2 = 0) (har : d.armed = true) (hl0 : 0 < d.left) (hl1 : d.left < 9223372036854775808) :
    Calls Try.prog 9 #[.agg (kcs v).toArray, .agg (acs x).toArray] w fun e w' => ∃ v' er, e = .returned (.tuple #[.agg (kcs v').toArray, .int .i64 er]) ∧ DkIs (N + 1) conv soft seq size opn (fun k => Q k ∨ w.heap.size ≤ k) w' v' ((resetK conv soft seq size opn d x.a).1) ∧ Below w.heap.size w w' := by
  obtain ⟨Az, nz, cz, Ad, nd, cd, As, ns, cs, Ac, nc, cc, rfl, ⟨hzl, hzn⟩, ⟨hdl, hdle⟩, hsl, hcl, hsum, hi0, hi1⟩ := hI.form
  rw [hdn] at hI ⊢
  rw [har] at hI ⊢
  obtain ⟨mk, hmk, hszk⟩ := big_size (P := Try.prog) (t := 36) (s := 13) (by kernel_rfl)
  have hmk0 : ¬ mk = 0 := by omega
  have HMK := Lib.hid hmk
  have HP := Lib.hid hx.p
  have HX := Lib.hid hx
  have HI := Lib.hid hI
  have HO := Lib.hid (And.intro hok hfit)
  have HB := Lib.hid (And.intro (And.intro hzl hzn) (And.intro (And.intro hdl hdle) (And.intro hsl (And.intro hcl (And.intro hsum (And.intro hi0 (And.intro hi1 hN)))))))
  have hk0 := hx.k0
  have hk1 := hx.k1
  have hi2 : d.ill ≤ 900 := by omega
  clear hmk hx hI hok hfit hzl hzn hdl hdle hsl hcl hsum hi1
  have hdn0 := Lib.hid hdn
  have har0 := Lib.hid har
  go_enter Try.func9, Try.ntmps9
  go_wp2_with (first
    | ((with_reducible refine wpList_kd_box (o := ⟨some 2, .box _ _, _, _, _, _⟩) rfl _ rfl (KV.mk conv soft seq size opn (.slice Az nz cz) (.slice Ad nd cd) (.slice As ns cs) (.slice Ac nc cc) (true) (d.left) (false) (d.ill)) rfl ?_); intro w1 x0 hB1 hs1)
    | ((with_reducible refine wpList_act_box (o := ⟨some 3, .box _ _, _, _, _, _⟩) rfl _ rfl x rfl ?_); intro w2 x1 hB2 hs2)
    | ((with_reducible refine wpList_kd_alloc (o := ⟨some 4, .alloc _, _, _, _, _⟩) rfl rfl ?_); intro w3 x2 hB3 hs3; have L := DoX.start (M := 4000) HI.out (by have := HB.out.2.2.2.2.2.2; omega) x0 hB1 hs1 x1 hB2 hs2 x2 hB3 hs3; rw [hs2, hs1]; clear hs1 hs2 hs3 x0 x1 x2 hB1 hB2 hB3; obtain ⟨a0, a1, a2, a67, _, _, _⟩ := L.ax.act HP.out; obtain ⟨e0, e1, e2, e3, e4⟩ := L.kx.kd; obtain ⟨k5, k6, k7, k8⟩ := L.kx.kdv; obtain ⟨k9, k10, k11, k12⟩ := L.kx.kdn; have hld := big_load0 Try.prog w.heap.size 0 (kcs (KV.mk conv soft seq size opn (.slice Az nz cz) (.slice Ad nd cd) (.slice As ns cs) (.slice Ac nc cc) (true) (d.left) (false) (d.ill))) mk (by rw [HMK.out]; rfl) w3 L.kx.range0; try dsimp only at e0 e1 e2 e3 e4 k5 k6 k7 k8 k9 k10 k11 k12; have HL := Lib.hid L; clear L)
    | fail)
  refine (ract_any conv soft seq size opn x.a.1 x.a.2 Az nz cz d.L w3 (by have h1 := HB.out.1.2; have h2 := HO.out.1.2.2.1; omega) HB.out.1.1 HO.out.1 HO.out.2 (HL.out.is.zrow rfl).2.2.rd 2 (by omega)).mono ?_
  rintro e w4 ⟨A1, c1, rfl, hr1, hb4, hpv⟩
  have HA := Lib.hid (And.intro (act_length conv soft seq size opn d.L 2 x.a.1 x.a.2) ((HL.out.is.zrow rfl).2.2.gives (zc_ne (by rw [HB.out.1.1]; have h1 := HB.out.1.2; have h2 := HO.out.1.1; have h3 := HO.out.1.2.1; omega)) hr1 hpv (VV.far (Q := Q) HL.out.sz)))
  have L4 := HL.out.on hb4
  clear hr1 hb4 hpv a0 a1 a2 a67 e0 e1 e2 e3 e4 k5 k6 k7 k8 k9 k10 k11 k12 hld
  generalize hact : act conv soft seq size opn d.L 2 x.a.1 x.a.2 = r at *
  have HC := Lib.hid hact
  clear hact
  obtain ⟨L1, why⟩ := r
  dsimp only at HA HC ⊢
  obtain ⟨a0, a1, a2, a67, _, _, _⟩ := L4.ax.act HP.out; obtain ⟨e0, e1, e2, e3, e4⟩ := L4.kx.kd; obtain ⟨k5, k6, k7, k8⟩ := L4.kx.kdv; obtain ⟨k9, k10, k11, k12⟩ := L4.kx.kdn; have hld := big_load0 Try.prog w.heap.size 0 (kcs (KV.mk conv soft seq size opn (.slice Az nz cz) (.slice Ad nd cd) (.slice As ns cs) (.slice Ac nc cc) (true) (d.left) (false) (d.ill))) mk (by rw [HMK.out]; rfl) w4 L4.kx.range0; try dsimp only at e0 e1 e2 e3 e4 k5 k6 k7 k8 k9 k10 k11 k12
  have HL4 := Lib.hid L4
  clear L4
  subst hwhy
  go_wp2_with (first
    | ((with_reducible refine wpList_box_slice (o := ⟨none, .store _ _ _, _, _, _, _⟩) rfl _ _ _ rfl w.heap.size 5 _ _ A1 _ c1 _ rfl rfl HL4.out.kx (kc5 _) size_rzones ?_); intro w50 hw50; have L50 := HL4.out.put 5 (.slice A1 nz c1) (KV.mk conv soft seq size opn (.slice A1 nz c1) (.slice Ad nd cd) (.slice As ns cs) (.slice Ac nc cc) (true) (d.left) (false) (d.ill)) { d with L := L1 } rfl ⟨HL4.out.is.fg, ⟨A1, nz, c1, rfl, HA.out.1.trans HB.out.1.1, HB.out.1.2, HA.out.2⟩, HL4.out.is.fd, HL4.out.is.fs, HL4.out.is.fc, HL4.out.is.fsum, ⟨HL4.out.is.fnum.1, HL4.out.is.fnum.2.1, HL4.out.is.fnum.2.2.1, HL4.out.is.fnum.2.2.2.1, HL4.out.is.fnum.2.2.2.2.1, HL4.out.is.fnum.2.2.2.2.2⟩⟩; rw [← hw50] at L50; clear hw50 a0 a1 a2 a67 e0 e1 e2 e3 e4 k5 k6 k7 k8 k9 k10 k11 k12 hld; obtain ⟨a0, a1, a2, a67, _, _, _⟩ := L50.ax.act HP.out; obtain ⟨e0, e1, e2, e3, e4⟩ := L50.kx.kd; obtain ⟨k5, k6, k7, k8⟩ := L50.kx.kdv; obtain ⟨k9, k10, k11, k12⟩ := L50.kx.kdn; have hld := big_load0 Try.prog w.heap.size 0 (kcs (KV.mk conv soft seq size opn (.slice A1 nz c1) (.slice Ad nd cd) (.slice As ns cs) (.slice Ac nc cc) (true) (d.left) (false) (d.ill))) mk (by rw [HMK.out]; rfl) w50 L50.kx.range0; try dsimp only at e0 e1 e2 e3 e4 k5 k6 k7 k8 k9 k10 k11 k12; have HL50 := Lib.hid L50; clear L50)
    | fail)
  refine (dout_any As ns cs d.safe x.a.1 w50 HB.out.2.2.1 (by have := HB.out.2.2; omega) (HL50.out.is.srow rfl).2.1 (HL50.out.is.srow rfl).2.2.row).mono ?_
  rintro e w6 ⟨V, rfl, hown, hb⟩
  obtain ⟨A2, c2, hV⟩ := own_slice hown
  subst hV
  obtain ⟨n2, hn2⟩ : ∃ n, (outK d.safe x.a.1).length = n := ⟨_, rfl⟩
  rw [hn2] at hown ⊢
  have HR2 := Lib.hid (RowQ.own (A := A2) (xs := wcs (outK d.safe x.a.1)) hown (VV.far (Q := Q) HL50.out.sz))
  have HN2 := Lib.hid hn2
  have Lw6 := HL50.out.on hb
  clear hown hb hn2 a0 a1 a2 a67 e0 e1 e2 e3 e4 k5 k6 k7 k8 k9 k10 k11 k12 hld
  obtain ⟨a0, a1, a2, a67, _, _, _⟩ := Lw6.ax.act HP.out; obtain ⟨e0, e1, e2, e3, e4⟩ := Lw6.kx.kd; obtain ⟨k5, k6, k7, k8⟩ := Lw6.kx.kdv; obtain ⟨k9, k10, k11, k12⟩ := Lw6.kx.kdn; have hld := big_load0 Try.prog w.heap.size 0 (kcs (KV.mk conv soft seq size opn (.slice A1 nz c1) (.slice Ad nd cd) (.slice As ns cs) (.slice Ac nc cc) (true) (d.left) (false) (d.ill))) mk (by rw [HMK.out]; rfl) w6 Lw6.kx.range0; try dsimp only at e0 e1 e2 e3 e4 k5 k6 k7 k8 k9 k10 k11 k12
  have HLw6 := Lib.hid Lw6
  clear Lw6
  have HK2 := Lib.hid (show n2 ≤ ns by rw [← HN2.out, ← HB.out.2.2.1]; exact List.length_filter_le _ _)
  go_wp2_with (first
    | ((with_reducible refine wpList_box_slice (o := ⟨none, .store _ _ _, _, _, _, _⟩) rfl _ _ _ rfl w.heap.size 7 _ _ A2 _ c2 _ rfl rfl HLw6.out.kx (kc7 _) size_rcells ?_); intro w51 hw51; have L51 := HLw6.out.put 7 (.slice A2 n2 c2) (KV.mk conv soft seq size opn (.slice A1 nz c1) (.slice Ad nd cd) (.slice A2 n2 c2) (.slice Ac nc cc) (true) (d.left) (false) (d.ill)) { d with L := L1, safe := outK d.safe x.a.1 } rfl ⟨HLw6.out.is.fg, HLw6.out.is.fz, HLw6.out.is.fd, ⟨A2, n2, c2, rfl, HN2.out, wok_filter _ (HLw6.out.is.srow rfl).2.1, HR2.out⟩, HLw6.out.is.fc, (by have h1 := HN2.out; have h3 := HK2.out; have h2 := HB.out.2.2; dsimp only; omega), ⟨HLw6.out.is.fnum.1, HLw6.out.is.fnum.2.1, HLw6.out.is.fnum.2.2.1, HLw6.out.is.fnum.2.2.2.1, HLw6.out.is.fnum.2.2.2.2.1, HLw6.out.is.fnum.2.2.2.2.2⟩⟩; rw [← hw51] at L51; clear hw51 a0 a1 a2 a67 e0 e1 e2 e3 e4 k5 k6 k7 k8 k9 k10 k11 k12 hld; obtain ⟨a0, a1, a2, a67, _, _, _⟩ := L51.ax.act HP.out; obtain ⟨e0, e1, e2, e3, e4⟩ := L51.kx.kd; obtain ⟨k5, k6, k7, k8⟩ := L51.kx.kdv; obtain ⟨k9, k10, k11, k12⟩ := L51.kx.kdn; have hld := big_load0 Try.prog w.heap.size 0 (kcs (KV.mk conv soft seq size opn (.slice A1 nz c1) (.slice Ad nd cd) (.slice A2 n2 c2) (.slice Ac nc cc) (true) (d.left) (false) (d.ill))) mk (by rw [HMK.out]; rfl) w51 L51.kx.range0; try dsimp only at e0 e1 e2 e3 e4 k5 k6 k7 k8 k9 k10 k11 k12; have HL51 := Lib.hid L51; clear L51)
    | fail)
  refine (dout_any Ac nc cc d.cached x.a.1 w51 HB.out.2.2.2.1 (by have := HB.out.2.2; omega) (HL51.out.is.crow rfl).2.1 (HL51.out.is.crow rfl).2.2.row).mono ?_
  rintro e w7 ⟨V, rfl, hown, hb⟩
  obtain ⟨A3, c3, hV⟩ := own_slice hown
  subst hV
  obtain ⟨n3, hn3⟩ : ∃ n, (outK d.cached x.a.1).length = n := ⟨_, rfl⟩
  rw [hn3] at hown ⊢
  have HR3 := Lib.hid (RowQ.own (A := A3) (xs := wcs (outK d.cached x.a.1)) hown (VV.far (Q := Q) HL51.out.sz))
  have HN3 := Lib.hid hn3
  have Lw7 := HL51.out.on hb
  clear hown hb hn3 a0 a1 a2 a67 e0 e1 e2 e3 e4 k5 k6 k7 k8 k9 k10 k11 k12 hld
  obtain ⟨a0, a1, a2, a67, _, _, _⟩ := Lw7.ax.act HP.out; obtain ⟨e0, e1, e2, e3, e4⟩ := Lw7.kx.kd; obtain ⟨k5, k6, k7, k8⟩ := Lw7.kx.kdv; obtain ⟨k9, k10, k11, k12⟩ := Lw7.kx.kdn; have hld := big_load0 Try.prog w.heap.size 0 (kcs (KV.mk conv soft seq size opn (.slice A1 nz c1) (.slice Ad nd cd) (.slice A2 n2 c2) (.slice Ac nc cc) (true) (d.left) (false) (d.ill))) mk (by rw [HMK.out]; rfl) w7 Lw7.kx.range0; try dsimp only at e0 e1 e2 e3 e4 k5 k6 k7 k8 k9 k10 k11 k12
  have HLw7 := Lib.hid Lw7
  clear Lw7
  have HK3 := Lib.hid (show n3 ≤ nc by rw [← HN3.out, ← HB.out.2.2.2.1]; exact List.length_filter_le _ _)
  go_wp2_with (first
    | ((with_reducible refine wpList_box_slice (o := ⟨none, .store _ _ _, _, _, _, _⟩) rfl _ _ _ rfl w.heap.size 8 _ _ A3 _ c3 _ rfl rfl HLw7.out.kx (kc8 _) size_rcells ?_); intro w52 hw52; have L52 := HLw7.out.put 8 (.slice A3 n3 c3) (KV.mk conv soft seq size opn (.slice A1 nz c1) (.slice Ad nd cd) (.slice A2 n2 c2) (.slice A3 n3 c3) (true) (d.left) (false) (d.ill)) { d with L := L1, safe := outK d.safe x.a.1, cached := outK d.cached x.a.1 } rfl ⟨HLw7.out.is.fg, HLw7.out.is.fz, HLw7.out.is.fd, HLw7.out.is.fs, ⟨A3, n3, c3, rfl, HN3.out, wok_filter _ (HLw7.out.is.crow rfl).2.1, HR3.out⟩, (by have h1 := HN2.out; have h3 := HK2.out; have h4 := HN3.out; have h5 := HK3.out; have h2 := HB.out.2.2; dsimp only; omega), ⟨HLw7.out.is.fnum.1, HLw7.out.is.fnum.2.1, HLw7.out.is.fnum.2.2.1, HLw7.out.is.fnum.2.2.2.1, HLw7.out.is.fnum.2.2.2.2.1, HLw7.out.is.fnum.2.2.2.2.2⟩⟩; rw [← hw52] at L52; clear hw52 a0 a1 a2 a67 e0 e1 e2 e3 e4 k5 k6 k7 k8 k9 k10 k11 k12 hld; obtain ⟨a0, a1, a2, a67, _, _, _⟩ := L52.ax.act HP.out; obtain ⟨e0, e1, e2, e3, e4⟩ := L52.kx.kd; obtain ⟨k5, k6, k7, k8⟩ := L52.kx.kdv; obtain ⟨k9, k10, k11, k12⟩ := L52.kx.kdn; have hld := big_load0 Try.prog w.heap.size 0 (kcs (KV.mk conv soft seq size opn (.slice A1 nz c1) (.slice Ad nd cd) (.slice A2 n2 c2) (.slice A3 n3 c3) (true) (d.left) (false) (d.ill))) mk (by rw [HMK.out]; rfl) w52 L52.kx.range0; try dsimp only at e0 e1 e2 e3 e4 k5 k6 k7 k8 k9 k10 k11 k12; have HL52 := Lib.hid L52; clear L52)
    | fail)
  have hnd9 : nd ≤ 1000 := by have := HB.out.2; omega
  clear a0 a1 a2 a67 e0 e1 e2 e3 e4 k5 k6 k7 k8 k9 k10 k11 k12 hld
  go_loopw [10, 11] (fun o i wr => ∃ j : Nat, j ≤ nd ∧ i = .int .i64 j ∧ wr.ownsRow w52.heap.size 3 1 o ((d.done.take j).filter fun y => y != x.a.1).length (ints ((d.done.take j).filter fun y => y != x.a.1)) ∧ Below w52.heap.size w52 wr) (fun _ i _ => nd - (intOf i).toNat)
  case atStart => exact ⟨0, by omega, rfl, World.ownsRow_nil _ _ _ _, Below.refl _ _⟩
  case round =>
    obtain ⟨j, hj, rfl, hown, hbl⟩ := hrel
    have k6 : wr.cell? ⟨w.heap.size, 6, none⟩ = some (.slice Ad nd cd) := (HL52.out.on hbl).kx.kdv.2.1
    by_cases hlt : j < nd
    · have hjd : d.done[j]? = some (d.done.getD j 0) := by
        have : j < d.done.length := by rw [HB.out.2.1.1]; exact hlt
        simp [List.getD_eq_getElem?_getD, List.getElem?_eq_getElem this]
      obtain ⟨ad, rfl, _, cj⟩ := (((HL52.out.on hbl).is.drow rfl).2.2.rd).at (k := j) (u := .int .i64 (d.done.getD j 0)) (by unfold ints; rw [List.getElem?_map, hjd]; rfl)
      have hji : (j : Int) < (nd : Int) := by omega
      have htk : d.done.take (j + 1) = d.done.take j ++ [d.done.getD j 0] := by
        have hl : j < d.done.length := (List.getElem?_eq_some_iff.1 hjd).1
        rw [List.take_succ_eq_append_getElem hl]
        simp [List.getD_eq_getElem?_getD, List.getElem?_eq_getElem hl]
      have hql : ((d.done.take j).filter fun y => y != x.a.1).length ≤ 1000 := Nat.le_trans (List.length_filter_le _ _) (by simp; omega)
      generalize d.done.getD j 0 = y at cj htk
      clear hjd
      have hsz' := hbl.size
      by_cases hy : y = x.a.1
      · have hyb : (y != x.a.1) = false := by simp [hy]
        have hyb2 : (y == x.a.1) = true := by simp [hy]
        have HF := Lib.hid (show (d.done.take (j + 1)).filter (fun y => y != x.a.1) = (d.done.take j).filter fun y => y != x.a.1 by rw [htk, List.filter_append]; simp [hy])
        have HO9 := Lib.hid (And.intro hown hbl)
        clear hown hbl htk hy hql
        go_wp2
        go_roundw
        case rel => exact ⟨j + 1, by omega, by go_num, by rw [HF.out]; exact HO9.out.1, HO9.out.2⟩
        case measure => first | (simp [intOf]; done) | (simp [intOf]; omega)
      · have hyb : (y != x.a.1) = true := by simp [hy]
        have hyb2 : (y == x.a.1) = false := by simp [hy]
        have HF := Lib.hid (show (d.done.take (j + 1)).filter (fun y => y != x.a.1) = ((d.done.take j).filter fun y => y != x.a.1) ++ [y] by rw [htk, List.filter_append]; simp [hy])
        clear htk hy
        have HQL := Lib.hid hql
        have HBL := Lib.hid hbl
        clear hql hbl
        generalize hfl : (d.done.take j).filter (fun y => y != x.a.1) = fl at *
        clear hfl
        go_wp2_with (at_builtin; go_loud (refine wpList_append_one _ rfl _ _ _ rfl w52.heap.size 3 _ 8 elemI u10 _ _ rfl _ rfl hown rfl (by have := HQL.out; simp only [maxLen]; omega) (by have := HQL.out; omega) hsz' ?_); intro v1 w21 hown1 hg1; have HO9 := Lib.hid (And.intro hown1 (HBL.out.grown hg1 hsz' fun g hg => (hown.lt g hg).1)); clear hown1 hg1)
        go_roundw
        case rel =>
          refine ⟨j + 1, by omega, by go_num, ?_, HO9.out.2⟩
          rw [HF.out, List.length_append]
          simpa [ints] using HO9.out.1
        case measure => first | (simp [intOf]; done) | (simp [intOf]; omega)
    · obtain rfl : nd = j := by omega
      rw [List.take_of_length_le (by rw [HB.out.2.1.1]; exact Nat.le_refl _)] at hown
      obtain ⟨A4, c4, hV⟩ := own_slice hown
      subst hV
      obtain ⟨n4, hn4⟩ : ∃ n, (d.done.filter fun y => y != x.a.1).length = n := ⟨_, rfl⟩
      rw [hn4] at hown ⊢
      have HR4 := Lib.hid (RdQ.own hown (VV.far (Q := Q) HL52.out.sz))
      have HN4 := Lib.hid hn4
      have HK4 := Lib.hid (show n4 ≤ nd by rw [← hn4, ← HB.out.2.1.1]; exact List.length_filter_le _ _)
      have L8 := HL52.out.on hbl
      clear hown hbl hn4 k6 hlt
      obtain ⟨a0, a1, a2, a67, _, _, _⟩ := L8.ax.act HP.out; obtain ⟨e0, e1, e2, e3, e4⟩ := L8.kx.kd; obtain ⟨k5, k6, k7, k8⟩ := L8.kx.kdv; obtain ⟨k9, k10, k11, k12⟩ := L8.kx.kdn; have hld := big_load0 Try.prog w.heap.size 0 (kcs (KV.mk conv soft seq size opn (.slice A1 nz c1) (.slice Ad nd cd) (.slice A2 n2 c2) (.slice A3 n3 c3) (true) (d.left) (false) (d.ill))) mk (by rw [HMK.out]; rfl) wr L8.kx.range0; try dsimp only at e0 e1 e2 e3 e4 k5 k6 k7 k8 k9 k10 k11 k12
      have HL8 := Lib.hid L8
      clear L8
      have hkok : KOk (KV.mk conv soft seq size opn (.slice A1 nz c1) (.slice A4 n4 c4) (.slice A2 n2 c2) (.slice A3 n3 c3) (true) (d.left - 1) (d.left - 1 == 0) (d.ill)) := ⟨rfl, rfl, rfl, rfl⟩
      go_wp2_with (first
        | ((with_reducible refine wpList_box_slice (o := ⟨none, .store _ _ _, _, _, _, _⟩) rfl _ _ _ rfl w.heap.size 6 _ _ A4 _ c4 _ rfl rfl HL8.out.kx (kc6 _) size_rints ?_); intro w53 hw53; have L53 := HL8.out.put 6 (.slice A4 n4 c4) (KV.mk conv soft seq size opn (.slice A1 nz c1) (.slice A4 n4 c4) (.slice A2 n2 c2) (.slice A3 n3 c3) (true) (d.left) (false) (d.ill)) { d with L := L1, safe := outK d.safe x.a.1, cached := outK d.cached x.a.1, done := d.done.filter fun y => y != x.a.1 } rfl ⟨HL8.out.is.fg, HL8.out.is.fz, ⟨A4, n4, c4, rfl, HN4.out, (by have h1 := HK4.out; have h2 := HB.out.2; omega), HR4.out⟩, HL8.out.is.fs, HL8.out.is.fc, HL8.out.is.fsum, ⟨HL8.out.is.fnum.1, HL8.out.is.fnum.2.1, HL8.out.is.fnum.2.2.1, HL8.out.is.fnum.2.2.2.1, HL8.out.is.fnum.2.2.2.2.1, HL8.out.is.fnum.2.2.2.2.2⟩⟩; rw [← hw53] at L53; clear hw53 a0 a1 a2 a67 e0 e1 e2 e3 e4 k5 k6 k7 k8 k9 k10 k11 k12 hld; obtain ⟨a0, a1, a2, a67, _, _, _⟩ := L53.ax.act HP.out; obtain ⟨e0, e1, e2, e3, e4⟩ := L53.kx.kd; obtain ⟨k5, k6, k7, k8⟩ := L53.kx.kdv; obtain ⟨k9, k10, k11, k12⟩ := L53.kx.kdn; have hld := big_load0 Try.prog w.heap.size 0 (kcs (KV.mk conv soft seq size opn (.slice A1 nz c1) (.slice A4 n4 c4) (.slice A2 n2 c2) (.slice A3 n3 c3) (true) (d.left) (false) (d.ill))) mk (by rw [HMK.out]; rfl) w53 L53.kx.range0; try dsimp only at e0 e1 e2 e3 e4 k5 k6 k7 k8 k9 k10 k11 k12; have HL53 := Lib.hid L53; clear L53)
        | ((with_reducible refine wpList_box_int (o := ⟨none, .store _ _ _, _, _, _, _⟩) rfl _ _ _ rfl w.heap.size 10 _ _ (d.left - 1) _ rfl rfl HL53.out.kx (kc10 _) size_i64 ?_); intro w54 hw54; have L54 := HL53.out.put 10 (.int .i64 (d.left - 1)) (KV.mk conv soft seq size opn (.slice A1 nz c1) (.slice A4 n4 c4) (.slice A2 n2 c2) (.slice A3 n3 c3) (true) (d.left - 1) (false) (d.ill)) { d with L := L1, safe := outK d.safe x.a.1, cached := outK d.cached x.a.1, done := d.done.filter fun y => y != x.a.1, left := d.left - 1 } rfl ⟨HL53.out.is.fg, HL53.out.is.fz, HL53.out.is.fd, HL53.out.is.fs, HL53.out.is.fc, HL53.out.is.fsum, ⟨HL53.out.is.fnum.1, rfl, HL53.out.is.fnum.2.2.1, HL53.out.is.fnum.2.2.2.1, HL53.out.is.fnum.2.2.2.2.1, HL53.out.is.fnum.2.2.2.2.2⟩⟩; rw [← hw54] at L54; clear hw54 a0 a1 a2 a67 e0 e1 e2 e3 e4 k5 k6 k7 k8 k9 k10 k11 k12 hld; obtain ⟨a0, a1, a2, a67, _, _, _⟩ := L54.ax.act HP.out; obtain ⟨e0, e1, e2, e3, e4⟩ := L54.kx.kd; obtain ⟨k5, k6, k7, k8⟩ := L54.kx.kdv; obtain ⟨k9, k10, k11, k12⟩ := L54.kx.kdn; have hld := big_load0 Try.prog w.heap.size 0 (kcs (KV.mk conv soft seq size opn (.slice A1 nz c1) (.slice A4 n4 c4) (.slice A2 n2 c2) (.slice A3 n3 c3) (true) (d.left - 1) (false) (d.ill))) mk (by rw [HMK.out]; rfl) w54 L54.kx.range0; try dsimp only at e0 e1 e2 e3 e4 k5 k6 k7 k8 k9 k10 k11 k12; have HL54 := Lib.hid L54; clear L54)
        | ((with_reducible refine wpList_box_bool (o := ⟨none, .store _ _ _, _, _, _, _⟩) rfl _ _ _ rfl w.heap.size 11 _ _ (d.left - 1 == 0) _ rfl rfl HL54.out.kx (kc11 _) size_bool ?_); intro w55 hw55; have L55 := HL54.out.put 11 (.bool (d.left - 1 == 0)) (KV.mk conv soft seq size opn (.slice A1 nz c1) (.slice A4 n4 c4) (.slice A2 n2 c2) (.slice A3 n3 c3) (true) (d.left - 1) (d.left - 1 == 0) (d.ill)) { d with L := L1, safe := outK d.safe x.a.1, cached := outK d.cached x.a.1, done := d.done.filter fun y => y != x.a.1, left := d.left - 1, down := d.left - 1 == 0 } rfl ⟨HL54.out.is.fg, HL54.out.is.fz, HL54.out.is.fd, HL54.out.is.fs, HL54.out.is.fc, HL54.out.is.fsum, ⟨HL54.out.is.fnum.1, HL54.out.is.fnum.2.1, rfl, HL54.out.is.fnum.2.2.2.1, HL54.out.is.fnum.2.2.2.2.1, HL54.out.is.fnum.2.2.2.2.2⟩⟩; rw [← hw55] at L55; clear hw55 a0 a1 a2 a67 e0 e1 e2 e3 e4 k5 k6 k7 k8 k9 k10 k11 k12 hld; obtain ⟨a0, a1, a2, a67, _, _, _⟩ := L55.ax.act HP.out; obtain ⟨e0, e1, e2, e3, e4⟩ := L55.kx.kd; obtain ⟨k5, k6, k7, k8⟩ := L55.kx.kdv; obtain ⟨k9, k10, k11, k12⟩ := L55.kx.kdn; have hld := big_load0 Try.prog w.heap.size 0 (kcs (KV.mk conv soft seq size opn (.slice A1 nz c1) (.slice A4 n4 c4) (.slice A2 n2 c2) (.slice A3 n3 c3) (true) (d.left - 1) (d.left - 1 == 0) (d.ill))) mk (by rw [HMK.out]; rfl) w55 L55.kx.range0; try dsimp only at e0 e1 e2 e3 e4 k5 k6 k7 k8 k9 k10 k11 k12; have HL55 := Lib.hid L55; clear L55)
        | ((refine wpList_kd_store (o := ⟨none, .store _ _ _, _, _, _, _⟩) rfl _ _ rfl (w.heap.size + 1 + 1) (KV.mk conv soft seq size opn (.slice A1 nz c1) (.slice A4 n4 c4) (.slice A2 n2 c2) (.slice A3 n3 c3) (true) (d.left - 1) (d.left - 1 == 0) (d.ill)) kd0 hkok rfl rfl HL55.out.rx ?_); intro w9 hb9 hg9 hs9; clear hs9)
        | fail)
      have hldF := big_load0 Try.prog (w.heap.size + 1 + 1) 0 (kcs (KV.mk conv soft seq size opn (.slice A1 nz c1) (.slice A4 n4 c4) (.slice A2 n2 c2) (.slice A3 n3 c3) (true) (d.left - 1) (d.left - 1 == 0) (d.ill))) mk (by rw [HMK.out]; rfl) _ hb9.range0
      have HE := Lib.hid (HL55.out.done (M := N + 1) hg9 (by have h1 := HB.out.2.1; have h2 := HK4.out; have h3 := HN4.out; dsimp only; omega) (by have h1 := HB.out.2.2; have h2 := HN2.out; have h3 := HK2.out; have h4 := HN3.out; have h5 := HK3.out; dsimp only; omega) (by have h1 := HB.out.2.2; (try dsimp only); omega))
      have hfin : DkIs (N + 1) conv soft seq size opn (fun k => Q k ∨ w.heap.size ≤ k) w9 (KV.mk conv soft seq size opn (.slice A1 nz c1) (.slice A4 n4 c4) (.slice A2 n2 c2) (.slice A3 n3 c3) (true) (d.left - 1) (d.left - 1 == 0) (d.ill)) ((resetK conv soft seq size opn d x.a).1) := by rw [show (resetK conv soft seq size opn d x.a).1 = { d with L := L1, safe := outK d.safe x.a.1, cached := outK d.cached x.a.1, done := d.done.filter fun y => y != x.a.1, left := d.left - 1, down := d.left - 1 == 0 } from (resetK_go hdn0.out HC.out).trans (tickK_yes (d := { d with L := L1, safe := outK d.safe x.a.1, cached := outK d.cached x.a.1, done := d.done.filter fun y => y != x.a.1 }) har0.out)]; exact HE.out.1
      generalize hR : kcs (KV.mk conv soft seq size opn (.slice A1 nz c1) (.slice A4 n4 c4) (.slice A2 n2 c2) (.slice A3 n3 c3) (true) (d.left - 1) (d.left - 1 == 0) (d.ill)) = R at hldF ⊢
      refine bodyPost_ret (v := .tuple #[.agg R.toArray, .int .i64 0]) (by simp [results, Try.results9, go_sem, hszk, hldF]) rfl ?_
      first
        | exact ⟨(KV.mk conv soft seq size opn (.slice A1 nz c1) (.slice A4 n4 c4) (.slice A2 n2 c2) (.slice A3 n3 c3) (true) (d.left - 1) (d.left - 1 == 0) (d.ill)), 0, by rw [hR], hfin, HE.out.2⟩
        | exact ⟨(KV.mk conv soft seq size opn (.slice A1 nz c1) (.slice A4 n4 c4) (.slice A2 n2 c2) (.slice A3 n3 c3) (true) (d.left - 1) (d.left - 1 == 0) (d.ill)), ⟨0, by rw [hR]⟩, hfin, HE.out.2⟩

set_option maxRecDepth 100000 in
set_option maxHeartbeats 4000000 in
theorem do_reset_still (N : Nat) (conv soft seq size opn : Int) (Q : Nat → Prop) (v : KV) (d : Dk) (x : AD) (w : World) (hN : N ≤ 900) (hok : Ok conv soft seq size opn) (hfit : Fit conv seq size opn d.L) (hI : DkIs N conv soft seq size opn Q w v d) (hx : AIn w x) (hk : x.k % 9 = 4) (hdn : d.down = false) (hwhy : (act conv soft seq size opn d.L 2 x.a.1 x.a.2).2 = 0) (har : d.armed = false) :
    Calls Try.prog 9 #[.agg (kcs v).toArray, .agg (acs x).toArray] w fun e w' => ∃ v' er, e = .returned (.tuple #[.agg (kcs v').toArray, .int .i64 er]) ∧ DkIs (N + 1) conv soft seq size opn (fun k => Q k ∨ w.heap.size ≤ k) w' v' ((resetK conv soft seq size opn d x.a).1) ∧ Below w.heap.size w w' := by
  obtain ⟨Az, nz, cz, Ad, nd, cd, As, ns, cs, Ac, nc, cc, rfl, ⟨hzl, hzn⟩, ⟨hdl, hdle⟩, hsl, hcl, hsum, hi0, hi1⟩ := hI.form
  rw [hdn] at hI ⊢
  rw [har] at hI ⊢
  obtain ⟨mk, hmk, hszk⟩ := big_size (P := Try.prog) (t := 36) (s := 13) (by kernel_rfl)
  have hmk0 : ¬ mk = 0 := by omega
  have HMK := Lib.hid hmk
  have HP := Lib.hid hx.p
  have HX := Lib.hid hx
  have HI := Lib.hid hI
  have HO := Lib.hid (And.intro hok hfit)
  have HB := Lib.hid (And.intro (And.intro hzl hzn) (And.intro (And.intro hdl hdle) (And.intro hsl (And.intro hcl (And.intro hsum (And.intro hi0 (And.intro hi1 hN)))))))
  have hk0 := hx.k0
  have hk1 := hx.k1
  have hi2 : d.ill ≤ 900 := by omega
  clear hmk hx hI hok hfit hzl hzn hdl hdle hsl hcl hsum hi1
  have hdn0 := Lib.hid hdn
  have har0 := Lib.hid har
  go_enter Try.func9, Try.ntmps9
  go_wp2_with (first
    | ((with_reducible refine wpList_kd_box (o := ⟨some 2, .box _ _, _, _, _, _⟩) rfl _ rfl (KV.mk conv soft seq size opn (.slice Az nz cz) (.slice Ad nd cd) (.slice As ns cs) (.slice Ac nc cc) (false) (d.left) (false) (d.ill)) rfl ?_); intro w1 x0 hB1 hs1)
    | ((with_reducible refine wpList_act_box (o := ⟨some 3, .box _ _, _, _, _, _⟩) rfl _ rfl x rfl ?_); intro w2 x1 hB2 hs2)
    | ((with_reducible refine wpList_kd_alloc (o := ⟨some 4, .alloc _, _, _, _, _⟩) rfl rfl ?_); intro w3 x2 hB3 hs3; have L := DoX.start (M := 4000) HI.out (by have := HB.out.2.2.2.2.2.2; omega) x0 hB1 hs1 x1 hB2 hs2 x2 hB3 hs3; rw [hs2, hs1]; clear hs1 hs2 hs3 x0 x1 x2 hB1 hB2 hB3; obtain ⟨a0, a1, a2, a67, _, _, _⟩ := L.ax.act HP.out; obtain ⟨e0, e1, e2, e3, e4⟩ := L.kx.kd; obtain ⟨k5, k6, k7, k8⟩ := L.kx.kdv; obtain ⟨k9, k10, k11, k12⟩ := L.kx.kdn; have hld := big_load0 Try.prog w.heap.size 0 (kcs (KV.mk conv soft seq size opn (.slice Az nz cz) (.slice Ad nd cd) (.slice As ns cs) (.slice Ac nc cc) (false) (d.left) (false) (d.ill))) mk (by rw [HMK.out]; rfl) w3 L.kx.range0; try dsimp only at e0 e1 e2 e3 e4 k5 k6 k7 k8 k9 k10 k11 k12; have HL := Lib.hid L; clear L)
    | fail)
  refine (ract_any conv soft seq size opn x.a.1 x.a.2 Az nz cz d.L w3 (by have h1 := HB.out.1.2; have h2 := HO.out.1.2.2.1; omega) HB.out.1.1 HO.out.1 HO.out.2 (HL.out.is.zrow rfl).2.2.rd 2 (by omega)).mono ?_
  rintro e w4 ⟨A1, c1, rfl, hr1, hb4, hpv⟩
  have HA := Lib.hid (And.intro (act_length conv soft seq size opn d.L 2 x.a.1 x.a.2) ((HL.out.is.zrow rfl).2.2.gives (zc_ne (by rw [HB.out.1.1]; have h1 := HB.out.1.2; have h2 := HO.out.1.1; have h3 := HO.out.1.2.1; omega)) hr1 hpv (VV.far (Q := Q) HL.out.sz)))
  have L4 := HL.out.on hb4
  clear hr1 hb4 hpv a0 a1 a2 a67 e0 e1 e2 e3 e4 k5 k6 k7 k8 k9 k10 k11 k12 hld
  generalize hact : act conv soft seq size opn d.L 2 x.a.1 x.a.2 = r at *
  have HC := Lib.hid hact
  clear hact
  obtain ⟨L1, why⟩ := r
  dsimp only at HA HC ⊢
  obtain ⟨a0, a1, a2, a67, _, _, _⟩ := L4.ax.act HP.out; obtain ⟨e0, e1, e2, e3, e4⟩ := L4.kx.kd; obtain ⟨k5, k6, k7, k8⟩ := L4.kx.kdv; obtain ⟨k9, k10, k11, k12⟩ := L4.kx.kdn; have hld := big_load0 Try.prog w.heap.size 0 (kcs (KV.mk conv soft seq size opn (.slice Az nz cz) (.slice Ad nd cd) (.slice As ns cs) (.slice Ac nc cc) (false) (d.left) (false) (d.ill))) mk (by rw [HMK.out]; rfl) w4 L4.kx.range0; try dsimp only at e0 e1 e2 e3 e4 k5 k6 k7 k8 k9 k10 k11 k12
  have HL4 := Lib.hid L4
  clear L4
  subst hwhy
  go_wp2_with (first
    | ((with_reducible refine wpList_box_slice (o := ⟨none, .store _ _ _, _, _, _, _⟩) rfl _ _ _ rfl w.heap.size 5 _ _ A1 _ c1 _ rfl rfl HL4.out.kx (kc5 _) size_rzones ?_); intro w56 hw56; have L56 := HL4.out.put 5 (.slice A1 nz c1) (KV.mk conv soft seq size opn (.slice A1 nz c1) (.slice Ad nd cd) (.slice As ns cs) (.slice Ac nc cc) (false) (d.left) (false) (d.ill)) { d with L := L1 } rfl ⟨HL4.out.is.fg, ⟨A1, nz, c1, rfl, HA.out.1.trans HB.out.1.1, HB.out.1.2, HA.out.2⟩, HL4.out.is.fd, HL4.out.is.fs, HL4.out.is.fc, HL4.out.is.fsum, ⟨HL4.out.is.fnum.1, HL4.out.is.fnum.2.1, HL4.out.is.fnum.2.2.1, HL4.out.is.fnum.2.2.2.1, HL4.out.is.fnum.2.2.2.2.1, HL4.out.is.fnum.2.2.2.2.2⟩⟩; rw [← hw56] at L56; clear hw56 a0 a1 a2 a67 e0 e1 e2 e3 e4 k5 k6 k7 k8 k9 k10 k11 k12 hld; obtain ⟨a0, a1, a2, a67, _, _, _⟩ := L56.ax.act HP.out; obtain ⟨e0, e1, e2, e3, e4⟩ := L56.kx.kd; obtain ⟨k5, k6, k7, k8⟩ := L56.kx.kdv; obtain ⟨k9, k10, k11, k12⟩ := L56.kx.kdn; have hld := big_load0 Try.prog w.heap.size 0 (kcs (KV.mk conv soft seq size opn (.slice A1 nz c1) (.slice Ad nd cd) (.slice As ns cs) (.slice Ac nc cc) (false) (d.left) (false) (d.ill))) mk (by rw [HMK.out]; rfl) w56 L56.kx.range0; try dsimp only at e0 e1 e2 e3 e4 k5 k6 k7 k8 k9 k10 k11 k12; have HL56 := Lib.hid L56; clear L56)
    | fail)
  refine (dout_any As ns cs d.safe x.a.1 w56 HB.out.2.2.1 (by have := HB.out.2.2; omega) (HL56.out.is.srow rfl).2.1 (HL56.out.is.srow rfl).2.2.row).mono ?_
  rintro e w6 ⟨V, rfl, hown, hb⟩
  obtain ⟨A2, c2, hV⟩ := own_slice hown
  subst hV
  obtain ⟨n2, hn2⟩ : ∃ n, (outK d.safe x.a.1).length = n := ⟨_, rfl⟩
  rw [hn2] at hown ⊢
  have HR2 := Lib.hid (RowQ.own (A := A2) (xs := wcs (outK d.safe x.a.1)) hown (VV.far (Q := Q) HL56.out.sz))
  have HN2 := Lib.hid hn2
  have Lw6 := HL56.out.on hb
  clear hown hb hn2 a0 a1 a2 a67 e0 e1 e2 e3 e4 k5 k6 k7 k8 k9 k10 k11 k12 hld
  obtain ⟨a0, a1, a2, a67, _, _, _⟩ := Lw6.ax.act HP.out; obtain ⟨e0, e1, e2, e3, e4⟩ := Lw6.kx.kd; obtain ⟨k5, k6, k7, k8⟩ := Lw6.kx.kdv; obtain ⟨k9, k10, k11, k12⟩ := Lw6.kx.kdn; have hld := big_load0 Try.prog w.heap.size 0 (kcs (KV.mk conv soft seq size opn (.slice A1 nz c1) (.slice Ad nd cd) (.slice As ns cs) (.slice Ac nc cc) (false) (d.left) (false) (d.ill))) mk (by rw [HMK.out]; rfl) w6 Lw6.kx.range0; try dsimp only at e0 e1 e2 e3 e4 k5 k6 k7 k8 k9 k10 k11 k12
  have HLw6 := Lib.hid Lw6
  clear Lw6
  have HK2 := Lib.hid (show n2 ≤ ns by rw [← HN2.out, ← HB.out.2.2.1]; exact List.length_filter_le _ _)
  go_wp2_with (first
    | ((with_reducible refine wpList_box_slice (o := ⟨none, .store _ _ _, _, _, _, _⟩) rfl _ _ _ rfl w.heap.size 7 _ _ A2 _ c2 _ rfl rfl HLw6.out.kx (kc7 _) size_rcells ?_); intro w57 hw57; have L57 := HLw6.out.put 7 (.slice A2 n2 c2) (KV.mk conv soft seq size opn (.slice A1 nz c1) (.slice Ad nd cd) (.slice A2 n2 c2) (.slice Ac nc cc) (false) (d.left) (false) (d.ill)) { d with L := L1, safe := outK d.safe x.a.1 } rfl ⟨HLw6.out.is.fg, HLw6.out.is.fz, HLw6.out.is.fd, ⟨A2, n2, c2, rfl, HN2.out, wok_filter _ (HLw6.out.is.srow rfl).2.1, HR2.out⟩, HLw6.out.is.fc, (by have h1 := HN2.out; have h3 := HK2.out; have h2 := HB.out.2.2; dsimp only; omega), ⟨HLw6.out.is.fnum.1, HLw6.out.is.fnum.2.1, HLw6.out.is.fnum.2.2.1, HLw6.out.is.fnum.2.2.2.1, HLw6.out.is.fnum.2.2.2.2.1, HLw6.out.is.fnum.2.2.2.2.2⟩⟩; rw [← hw57] at L57; clear hw57 a0 a1 a2 a67 e0 e1 e2 e3 e4 k5 k6 k7 k8 k9 k10 k11 k12 hld; obtain ⟨a0, a1, a2, a67, _, _, _⟩ := L57.ax.act HP.out; obtain ⟨e0, e1, e2, e3, e4⟩ := L57.kx.kd; obtain ⟨k5, k6, k7, k8⟩ := L57.kx.kdv; obtain ⟨k9, k10, k11, k12⟩ := L57.kx.kdn; have hld := big_load0 Try.prog w.heap.size 0 (kcs (KV.mk conv soft seq size opn (.slice A1 nz c1) (.slice Ad nd cd) (.slice A2 n2 c2) (.slice Ac nc cc) (false) (d.left) (false) (d.ill))) mk (by rw [HMK.out]; rfl) w57 L57.kx.range0; try dsimp only at e0 e1 e2 e3 e4 k5 k6 k7 k8 k9 k10 k11 k12; have HL57 := Lib.hid L57; clear L57)
    | fail)
  refine (dout_any Ac nc cc d.cached x.a.1 w57 HB.out.2.2.2.1 (by have := HB.out.2.2; omega) (HL57.out.is.crow rfl).2.1 (HL57.out.is.crow rfl).2.2.row).mono ?_
  rintro e w7 ⟨V, rfl, hown, hb⟩
  obtain ⟨A3, c3, hV⟩ := own_slice hown
  subst hV
  obtain ⟨n3, hn3⟩ : ∃ n, (outK d.cached x.a.1).length = n := ⟨_, rfl⟩
  rw [hn3] at hown ⊢
  have HR3 := Lib.hid (RowQ.own (A := A3) (xs := wcs (outK d.cached x.a.1)) hown (VV.far (Q := Q) HL57.out.sz))
  have HN3 := Lib.hid hn3
  have Lw7 := HL57.out.on hb
  clear hown hb hn3 a0 a1 a2 a67 e0 e1 e2 e3 e4 k5 k6 k7 k8 k9 k10 k11 k12 hld
  obtain ⟨a0, a1, a2, a67, _, _, _⟩ := Lw7.ax.act HP.out; obtain ⟨e0, e1, e2, e3, e4⟩ := Lw7.kx.kd; obtain ⟨k5, k6, k7, k8⟩ := Lw7.kx.kdv; obtain ⟨k9, k10, k11, k12⟩ := Lw7.kx.kdn; have hld := big_load0 Try.prog w.heap.size 0 (kcs (KV.mk conv soft seq size opn (.slice A1 nz c1) (.slice Ad nd cd) (.slice A2 n2 c2) (.slice Ac nc cc) (false) (d.left) (false) (d.ill))) mk (by rw [HMK.out]; rfl) w7 Lw7.kx.range0; try dsimp only at e0 e1 e2 e3 e4 k5 k6 k7 k8 k9 k10 k11 k12
  have HLw7 := Lib.hid Lw7
  clear Lw7
  have HK3 := Lib.hid (show n3 ≤ nc by rw [← HN3.out, ← HB.out.2.2.2.1]; exact List.length_filter_le _ _)
  go_wp2_with (first
    | ((with_reducible refine wpList_box_slice (o := ⟨none, .store _ _ _, _, _, _, _⟩) rfl _ _ _ rfl w.heap.size 8 _ _ A3 _ c3 _ rfl rfl HLw7.out.kx (kc8 _) size_rcells ?_); intro w58 hw58; have L58 := HLw7.out.put 8 (.slice A3 n3 c3) (KV.mk conv soft seq size opn (.slice A1 nz c1) (.slice Ad nd cd) (.slice A2 n2 c2) (.slice A3 n3 c3) (false) (d.left) (false) (d.ill)) { d with L := L1, safe := outK d.safe x.a.1, cached := outK d.cached x.a.1 } rfl ⟨HLw7.out.is.fg, HLw7.out.is.fz, HLw7.out.is.fd, HLw7.out.is.fs, ⟨A3, n3, c3, rfl, HN3.out, wok_filter _ (HLw7.out.is.crow rfl).2.1, HR3.out⟩, (by have h1 := HN2.out; have h3 := HK2.out; have h4 := HN3.out; have h5 := HK3.out; have h2 := HB.out.2.2; dsimp only; omega), ⟨HLw7.out.is.fnum.1, HLw7.out.is.fnum.2.1, HLw7.out.is.fnum.2.2.1, HLw7.out.is.fnum.2.2.2.1, HLw7.out.is.fnum.2.2.2.2.1, HLw7.out.is.fnum.2.2.2.2.2⟩⟩; rw [← hw58] at L58; clear hw58 a0 a1 a2 a67 e0 e1 e2 e3 e4 k5 k6 k7 k8 k9 k10 k11 k12 hld; obtain ⟨a0, a1, a2, a67, _, _, _⟩ := L58.ax.act HP.out; obtain ⟨e0, e1, e2, e3, e4⟩ := L58.kx.kd; obtain ⟨k5, k6, k7, k8⟩ := L58.kx.kdv; obtain ⟨k9, k10, k11, k12⟩ := L58.kx.kdn; have hld := big_load0 Try.prog w.heap.size 0 (kcs (KV.mk conv soft seq size opn (.slice A1 nz c1) (.slice Ad nd cd) (.slice A2 n2 c2) (.slice A3 n3 c3) (false) (d.left) (false) (d.ill))) mk (by rw [HMK.out]; rfl) w58 L58.kx.range0; try dsimp only at e0 e1 e2 e3 e4 k5 k6 k7 k8 k9 k10 k11 k12; have HL58 := Lib.hid L58; clear L58)
    | fail)
  have hnd9 : nd ≤ 1000 := by have := HB.out.2; omega
  clear a0 a1 a2 a67 e0 e1 e2 e3 e4 k5 k6 k7 k8 k9 k10 k11 k12 hld
  go_loopw [10, 11] (fun o i wr => ∃ j : Nat, j ≤ nd ∧ i = .int .i64 j ∧ wr.ownsRow w58.heap.size 3 1 o ((d.done.take j).filter fun y => y != x.a.1).length (ints ((d.done.take j).filter fun y => y != x.a.1)) ∧ Below w58.heap.size w58 wr) (fun _ i _ => nd - (intOf i).toNat)
  case atStart => exact ⟨0, by omega, rfl, World.ownsRow_nil _ _ _ _, Below.refl _ _⟩
  case round =>
    obtain ⟨j, hj, rfl, hown, hbl⟩ := hrel
    have k6 : wr.cell? ⟨w.heap.size, 6, none⟩ = some (.slice Ad nd cd) := (HL58.out.on hbl).kx.kdv.2.1
    by_cases hlt : j < nd
    · have hjd : d.done[j]? = some (d.done.getD j 0) := by
        have : j < d.done.length := by rw [HB.out.2.1.1]; exact hlt
        simp [List.getD_eq_getElem?_getD, List.getElem?_eq_getElem this]
      obtain ⟨ad, rfl, _, cj⟩ := (((HL58.out.on hbl).is.drow rfl).2.2.rd).at (k := j) (u := .int .i64 (d.done.getD j 0)) (by unfold ints; rw [List.getElem?_map, hjd]; rfl)
      have hji : (j : Int) < (nd : Int) := by omega
      have htk : d.done.take (j + 1) = d.done.take j ++ [d.done.getD j 0] := by
        have hl : j < d.done.length := (List.getElem?_eq_some_iff.1 hjd).1
        rw [List.take_succ_eq_append_getElem hl]
        simp [List.getD_eq_getElem?_getD, List.getElem?_eq_getElem hl]
      have hql : ((d.done.take j).filter fun y => y != x.a.1).length ≤ 1000 := Nat.le_trans (List.length_filter_le _ _) (by simp; omega)
      generalize d.done.getD j 0 = y at cj htk
      clear hjd
      have hsz' := hbl.size
      by_cases hy : y = x.a.1
      · have hyb : (y != x.a.1) = false := by simp [hy]
        have hyb2 : (y == x.a.1) = true := by simp [hy]
        have HF := Lib.hid (show (d.done.take (j + 1)).filter (fun y => y != x.a.1) = (d.done.take j).filter fun y => y != x.a.1 by rw [htk, List.filter_append]; simp [hy])
        have HO9 := Lib.hid (And.intro hown hbl)
        clear hown hbl htk hy hql
        go_wp2
        go_roundw
        case rel => exact ⟨j + 1, by omega, by go_num, by rw [HF.out]; exact HO9.out.1, HO9.out.2⟩
        case measure => first | (simp [intOf]; done) | (simp [intOf]; omega)
      · have hyb : (y != x.a.1) = true := by simp [hy]
        have hyb2 : (y == x.a.1) = false := by simp [hy]
        have HF := Lib.hid (show (d.done.take (j + 1)).filter (fun y => y != x.a.1) = ((d.done.take j).filter fun y => y != x.a.1) ++ [y] by rw [htk, List.filter_append]; simp [hy])
        clear htk hy
        have HQL := Lib.hid hql
        have HBL := Lib.hid hbl
        clear hql hbl
        generalize hfl : (d.done.take j).filter (fun y => y != x.a.1) = fl at *
        clear hfl
        go_wp2_with (at_builtin; go_loud (refine wpList_append_one _ rfl _ _ _ rfl w58.heap.size 3 _ 8 elemI u10 _ _ rfl _ rfl hown rfl (by have := HQL.out; simp only [maxLen]; omega) (by have := HQL.out; omega) hsz' ?_); intro v1 w21 hown1 hg1; have HO9 := Lib.hid (And.intro hown1 (HBL.out.grown hg1 hsz' fun g hg => (hown.lt g hg).1)); clear hown1 hg1)
        go_roundw
        case rel =>
          refine ⟨j + 1, by omega, by go_num, ?_, HO9.out.2⟩
          rw [HF.out, List.length_append]
          simpa [ints] using HO9.out.1
        case measure => first | (simp [intOf]; done) | (simp [intOf]; omega)
    · obtain rfl : nd = j := by omega
      rw [List.take_of_length_le (by rw [HB.out.2.1.1]; exact Nat.le_refl _)] at hown
      obtain ⟨A4, c4, hV⟩ := own_slice hown
      subst hV
      obtain ⟨n4, hn4⟩ : ∃ n, (d.done.filter fun y => y != x.a.1).length = n := ⟨_, rfl⟩
      rw [hn4] at hown ⊢
      have HR4 := Lib.hid (RdQ.own hown (VV.far (Q := Q) HL58.out.sz))
      have HN4 := Lib.hid hn4
      have HK4 := Lib.hid (show n4 ≤ nd by rw [← hn4, ← HB.out.2.1.1]; exact List.length_filter_le _ _)
      have L8 := HL58.out.on hbl
      clear hown hbl hn4 k6 hlt
      obtain ⟨a0, a1, a2, a67, _, _, _⟩ := L8.ax.act HP.out; obtain ⟨e0, e1, e2, e3, e4⟩ := L8.kx.kd; obtain ⟨k5, k6, k7, k8⟩ := L8.kx.kdv; obtain ⟨k9, k10, k11, k12⟩ := L8.kx.kdn; have hld := big_load0 Try.prog w.heap.size 0 (kcs (KV.mk conv soft seq size opn (.slice A1 nz c1) (.slice Ad nd cd) (.slice A2 n2 c2) (.slice A3 n3 c3) (false) (d.left) (false) (d.ill))) mk (by rw [HMK.out]; rfl) wr L8.kx.range0; try dsimp only at e0 e1 e2 e3 e4 k5 k6 k7 k8 k9 k10 k11 k12
      have HL8 := Lib.hid L8
      clear L8
      have hkok : KOk (KV.mk conv soft seq size opn (.slice A1 nz c1) (.slice A4 n4 c4) (.slice A2 n2 c2) (.slice A3 n3 c3) (false) (d.left) (false) (d.ill)) := ⟨rfl, rfl, rfl, rfl⟩
      go_wp2_with (first
        | ((with_reducible refine wpList_box_slice (o := ⟨none, .store _ _ _, _, _, _, _⟩) rfl _ _ _ rfl w.heap.size 6 _ _ A4 _ c4 _ rfl rfl HL8.out.kx (kc6 _) size_rints ?_); intro w59 hw59; have L59 := HL8.out.put 6 (.slice A4 n4 c4) (KV.mk conv soft seq size opn (.slice A1 nz c1) (.slice A4 n4 c4) (.slice A2 n2 c2) (.slice A3 n3 c3) (false) (d.left) (false) (d.ill)) { d with L := L1, safe := outK d.safe x.a.1, cached := outK d.cached x.a.1, done := d.done.filter fun y => y != x.a.1 } rfl ⟨HL8.out.is.fg, HL8.out.is.fz, ⟨A4, n4, c4, rfl, HN4.out, (by have h1 := HK4.out; have h2 := HB.out.2; omega), HR4.out⟩, HL8.out.is.fs, HL8.out.is.fc, HL8.out.is.fsum, ⟨HL8.out.is.fnum.1, HL8.out.is.fnum.2.1, HL8.out.is.fnum.2.2.1, HL8.out.is.fnum.2.2.2.1, HL8.out.is.fnum.2.2.2.2.1, HL8.out.is.fnum.2.2.2.2.2⟩⟩; rw [← hw59] at L59; clear hw59 a0 a1 a2 a67 e0 e1 e2 e3 e4 k5 k6 k7 k8 k9 k10 k11 k12 hld; obtain ⟨a0, a1, a2, a67, _, _, _⟩ := L59.ax.act HP.out; obtain ⟨e0, e1, e2, e3, e4⟩ := L59.kx.kd; obtain ⟨k5, k6, k7, k8⟩ := L59.kx.kdv; obtain ⟨k9, k10, k11, k12⟩ := L59.kx.kdn; have hld := big_load0 Try.prog w.heap.size 0 (kcs (KV.mk conv soft seq size opn (.slice A1 nz c1) (.slice A4 n4 c4) (.slice A2 n2 c2) (.slice A3 n3 c3) (false) (d.left) (false) (d.ill))) mk (by rw [HMK.out]; rfl) w59 L59.kx.range0; try dsimp only at e0 e1 e2 e3 e4 k5 k6 k7 k8 k9 k10 k11 k12; have HL59 := Lib.hid L59; clear L59)
        | ((refine wpList_kd_store (o := ⟨none, .store _ _ _, _, _, _, _⟩) rfl _ _ rfl (w.heap.size + 1 + 1) (KV.mk conv soft seq size opn (.slice A1 nz c1) (.slice A4 n4 c4) (.slice A2 n2 c2) (.slice A3 n3 c3) (false) (d.left) (false) (d.ill)) kd0 hkok rfl rfl HL59.out.rx ?_); intro w9 hb9 hg9 hs9; clear hs9)
        | fail)
      have hldF := big_load0 Try.prog (w.heap.size + 1 + 1) 0 (kcs (KV.mk conv soft seq size opn (.slice A1 nz c1) (.slice A4 n4 c4) (.slice A2 n2 c2) (.slice A3 n3 c3) (false) (d.left) (false) (d.ill))) mk (by rw [HMK.out]; rfl) _ hb9.range0
      have HE := Lib.hid (HL59.out.done (M := N + 1) hg9 (by have h1 := HB.out.2.1; have h2 := HK4.out; have h3 := HN4.out; dsimp only; omega) (by have h1 := HB.out.2.2; have h2 := HN2.out; have h3 := HK2.out; have h4 := HN3.out; have h5 := HK3.out; dsimp only; omega) (by have h1 := HB.out.2.2; (try dsimp only); omega))
      have hfin : DkIs (N + 1) conv soft seq size opn (fun k => Q k ∨ w.heap.size ≤ k) w9 (KV.mk conv soft seq size opn (.slice A1 nz c1) (.slice A4 n4 c4) (.slice A2 n2 c2) (.slice A3 n3 c3) (false) (d.left) (false) (d.ill)) ((resetK conv soft seq size opn d x.a).1) := by rw [show (resetK conv soft seq size opn d x.a).1 = { d with L := L1, safe := outK d.safe x.a.1, cached := outK d.cached x.a.1, done := d.done.filter fun y => y != x.a.1 } from (resetK_go hdn0.out HC.out).trans (tickK_no (d := { d with L := L1, safe := outK d.safe x.a.1, cached := outK d.cached x.a.1, done := d.done.filter fun y => y != x.a.1 }) har0.out)]; exact HE.out.1
      generalize hR : kcs (KV.mk conv soft seq size opn (.slice A1 nz c1) (.slice A4 n4 c4) (.slice A2 n2 c2) (.slice A3 n3 c3) (false) (d.left) (false) (d.ill)) = R at hldF ⊢
      refine bodyPost_ret (v := .tuple #[.agg R.toArray, .int .i64 0]) (by simp [results, Try.results9, go_sem, hszk, hldF]) rfl ?_
      first
        | exact ⟨(KV.mk conv soft seq size opn (.slice A1 nz c1) (.slice A4 n4 c4) (.slice A2 n2 c2) (.slice A3 n3 c3) (false) (d.left) (false) (d.ill)), 0, by rw [hR], hfin, HE.out.2⟩
        | exact ⟨(KV.mk conv soft seq size opn (.slice A1 nz c1) (.slice A4 n4 c4) (.slice A2 n2 c2) (.slice A3 n3 c3) (false) (d.left) (false) (d.ill)), ⟨0, by rw [hR]⟩, hfin, HE.out.2⟩
end Go.Proofs.Ytkdhibjmfanhcaa

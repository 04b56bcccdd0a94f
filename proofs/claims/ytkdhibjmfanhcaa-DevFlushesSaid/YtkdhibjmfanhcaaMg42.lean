/-
  DfK DfL
-/
import Derived.Test.YtkdhibjmfanhcaaMg40
/-
  The document's answers for layer 5: Do, way by way.
-/
namespace Go.Proofs.Ytkdhibjmfanhcaa
open Go.RowKit Geom Zone Dev
set_option linter.unusedVariables false

set_option maxRecDepth 100000 in
set_option maxHeartbeats 4000000 in
theorem do_arm_down (N : Nat) (conv soft seq size opn : Int) (Q : Nat → Prop) (v : KV) (d : Dk) (x : AD) (w : World) (hN : N ≤ 900) (hok : Ok conv soft seq size opn) (hfit : Fit conv seq size opn d.L) (hI : DkIs N conv soft seq size opn Q w v d) (hx : AIn w x) (hk : x.k % 9 = 7) (hdn : d.down = true) :
    Calls Try.prog 9 #[.agg (kcs v).toArray, .agg (acs x).toArray] w fun e w' => ∃ v' er, e = .returned (.tuple #[.agg (kcs v').toArray, .int .i64 er]) ∧ DkIs (N + 1) conv soft seq size opn (fun k => Q k ∨ w.heap.size ≤ k) w' v' (armK d x.n) ∧ Below w.heap.size w w' := by
  obtain ⟨Az, nz, cz, Ad, nd, cd, As, ns, cs, Ac, nc, cc, rfl, ⟨hzl, hzn⟩, ⟨hdl, hdle⟩, hsl, hcl, hsum, hi0, hi1⟩ := hI.form
  rw [hdn] at hI ⊢
  obtain ⟨mk, hmk, hszk⟩ := big_size (P := Try.prog) (t := 36) (s := 13) (by kernel_rfl)
  have hmk0 : ¬ mk = 0 := by omega
  have HMK := Lib.hid hmk
  have HP := Lib.hid hx.p
  have HX := Lib.hid hx
  have HI := Lib.hid hI
  have HO := Lib.hid (And.intro hok hfit)
  have HB := Lib.hid (And.intro (And.intro hzl hzn) (And.intro (And.intro hdl hdle) (And.intro hsl (And.intro hcl (And.intro hsum (And.intro hi0 (And.intro hi1 hN)))))))
  have hk0 := hx.k0
  have hk1 := hx.k1
  have hi2 : d.ill ≤ 900 := by omega
  clear hmk hx hI hok hfit hzl hzn hdl hdle hsl hcl hsum hi1
  go_enter Try.func9, Try.ntmps9
  have hkok : KOk (KV.mk conv soft seq size opn (.slice Az nz cz) (.slice Ad nd cd) (.slice As ns cs) (.slice Ac nc cc) (d.armed) (d.left) (true) (d.ill)) := ⟨rfl, rfl, rfl, rfl⟩
  go_wp2_with (first
    | ((with_reducible refine wpList_kd_box (o := ⟨some 2, .box _ _, _, _, _, _⟩) rfl _ rfl (KV.mk conv soft seq size opn (.slice Az nz cz) (.slice Ad nd cd) (.slice As ns cs) (.slice Ac nc cc) (d.armed) (d.left) (true) (d.ill)) rfl ?_); intro w1 x0 hB1 hs1)
    | ((with_reducible refine wpList_act_box (o := ⟨some 3, .box _ _, _, _, _, _⟩) rfl _ rfl x rfl ?_); intro w2 x1 hB2 hs2)
    | ((with_reducible refine wpList_kd_alloc (o := ⟨some 4, .alloc _, _, _, _, _⟩) rfl rfl ?_); intro w3 x2 hB3 hs3; have L := DoX.start (M := 4000) HI.out (by have := HB.out.2.2.2.2.2.2; omega) x0 hB1 hs1 x1 hB2 hs2 x2 hB3 hs3; rw [hs2, hs1]; clear hs1 hs2 hs3 x0 x1 x2 hB1 hB2 hB3; obtain ⟨a0, a1, a2, a67, _, _, _⟩ := L.ax.act HP.out; obtain ⟨e0, e1, e2, e3, e4⟩ := L.kx.kd; obtain ⟨k5, k6, k7, k8⟩ := L.kx.kdv; obtain ⟨k9, k10, k11, k12⟩ := L.kx.kdn; have hld := big_load0 Try.prog w.heap.size 0 (kcs (KV.mk conv soft seq size opn (.slice Az nz cz) (.slice Ad nd cd) (.slice As ns cs) (.slice Ac nc cc) (d.armed) (d.left) (true) (d.ill))) mk (by rw [HMK.out]; rfl) w3 L.kx.range0; try dsimp only at e0 e1 e2 e3 e4 k5 k6 k7 k8 k9 k10 k11 k12; have HL := Lib.hid L; clear L)
    | ((refine wpList_kd_store (o := ⟨none, .store _ _ _, _, _, _, _⟩) rfl _ _ rfl (w.heap.size + 1 + 1) (KV.mk conv soft seq size opn (.slice Az nz cz) (.slice Ad nd cd) (.slice As ns cs) (.slice Ac nc cc) (d.armed) (d.left) (true) (d.ill)) kd0 hkok rfl rfl HL.out.rx ?_); intro w9 hb9 hg9 hs9; clear hs9)
    | fail)
  have hldF := big_load0 Try.prog (w.heap.size + 1 + 1) 0 (kcs (KV.mk conv soft seq size opn (.slice Az nz cz) (.slice Ad nd cd) (.slice As ns cs) (.slice Ac nc cc) (d.armed) (d.left) (true) (d.ill))) mk (by rw [HMK.out]; rfl) _ hb9.range0
  have HE := Lib.hid (HL.out.done (M := N + 1) hg9 (by have h1 := HB.out.2.1; (try dsimp only); omega) (by have h1 := HB.out.2.2; (try dsimp only); omega) (by have h1 := HB.out.2.2; (try dsimp only); omega))
  have hfin : DkIs (N + 1) conv soft seq size opn (fun k => Q k ∨ w.heap.size ≤ k) w9 (KV.mk conv soft seq size opn (.slice Az nz cz) (.slice Ad nd cd) (.slice As ns cs) (.slice Ac nc cc) (d.armed) (d.left) (true) (d.ill)) (armK d x.n) := by rw [show armK d x.n = d from if_pos hdn]; exact HE.out.1
  generalize hR : kcs (KV.mk conv soft seq size opn (.slice Az nz cz) (.slice Ad nd cd) (.slice As ns cs) (.slice Ac nc cc) (d.armed) (d.left) (true) (d.ill)) = R at hldF ⊢
  refine bodyPost_ret (v := .tuple #[.agg R.toArray, .int .i64 0]) (by simp [results, Try.results9, go_sem, hszk, hldF]) rfl ?_
  first
    | exact ⟨(KV.mk conv soft seq size opn (.slice Az nz cz) (.slice Ad nd cd) (.slice As ns cs) (.slice Ac nc cc) (d.armed) (d.left) (true) (d.ill)), 0, by rw [hR], hfin, HE.out.2⟩
    | exact ⟨(KV.mk conv soft seq size opn (.slice Az nz cz) (.slice Ad nd cd) (.slice As ns cs) (.slice Ac nc cc) (d.armed) (d.left) (true) (d.ill)), ⟨0, by rw [hR]⟩, hfin, HE.out.2⟩

set_option maxRecDepth 100000 in
set_option maxHeartbeats 4000000 in
theorem do_arm_up (N : Nat) (conv soft seq size opn : Int) (Q : Nat → Prop) (v : KV) (d : Dk) (x : AD) (w : World) (hN : N ≤ 900) (hok : Ok conv soft seq size opn) (hfit : Fit conv seq size opn d.L) (hI : DkIs N conv soft seq size opn Q w v d) (hx : AIn w x) (hk : x.k % 9 = 7) (hdn : d.down = false) :
    Calls Try.prog 9 #[.agg (kcs v).toArray, .agg (acs x).toArray] w fun e w' => ∃ v' er, e = .returned (.tuple #[.agg (kcs v').toArray, .int .i64 er]) ∧ DkIs (N + 1) conv soft seq size opn (fun k => Q k ∨ w.heap.size ≤ k) w' v' (armK d x.n) ∧ Below w.heap.size w w' := by
  obtain ⟨Az, nz, cz, Ad, nd, cd, As, ns, cs, Ac, nc, cc, rfl, ⟨hzl, hzn⟩, ⟨hdl, hdle⟩, hsl, hcl, hsum, hi0, hi1⟩ := hI.form
  rw [hdn] at hI ⊢
  obtain ⟨mk, hmk, hszk⟩ := big_size (P := Try.prog) (t := 36) (s := 13) (by kernel_rfl)
  have hmk0 : ¬ mk = 0 := by omega
  have HMK := Lib.hid hmk
  have HP := Lib.hid hx.p
  have HX := Lib.hid hx
  have HI := Lib.hid hI
  have HO := Lib.hid (And.intro hok hfit)
  have HB := Lib.hid (And.intro (And.intro hzl hzn) (And.intro (And.intro hdl hdle) (And.intro hsl (And.intro hcl (And.intro hsum (And.intro hi0 (And.intro hi1 hN)))))))
  have hk0 := hx.k0
  have hk1 := hx.k1
  have hi2 : d.ill ≤ 900 := by omega
  clear hmk hx hI hok hfit hzl hzn hdl hdle hsl hcl hsum hi1
  have hdn0 := Lib.hid hdn
  go_enter Try.func9, Try.ntmps9
  have hkok : KOk (KV.mk conv soft seq size opn (.slice Az nz cz) (.slice Ad nd cd) (.slice As ns cs) (.slice Ac nc cc) (decide (0 ≤ x.n)) (x.n) (x.n == 0) (d.ill)) := ⟨rfl, rfl, rfl, rfl⟩
  go_wp2_with (first
    | ((with_reducible refine wpList_kd_box (o := ⟨some 2, .box _ _, _, _, _, _⟩) rfl _ rfl (KV.mk conv soft seq size opn (.slice Az nz cz) (.slice Ad nd cd) (.slice As ns cs) (.slice Ac nc cc) (d.armed) (d.left) (false) (d.ill)) rfl ?_); intro w1 x0 hB1 hs1)
    | ((with_reducible refine wpList_act_box (o := ⟨some 3, .box _ _, _, _, _, _⟩) rfl _ rfl x rfl ?_); intro w2 x1 hB2 hs2)
    | ((with_reducible refine wpList_kd_alloc (o := ⟨some 4, .alloc _, _, _, _, _⟩) rfl rfl ?_); intro w3 x2 hB3 hs3; have L := DoX.start (M := 4000) HI.out (by have := HB.out.2.2.2.2.2.2; omega) x0 hB1 hs1 x1 hB2 hs2 x2 hB3 hs3; rw [hs2, hs1]; clear hs1 hs2 hs3 x0 x1 x2 hB1 hB2 hB3; obtain ⟨a0, a1, a2, a67, _, _, _⟩ := L.ax.act HP.out; obtain ⟨e0, e1, e2, e3, e4⟩ := L.kx.kd; obtain ⟨k5, k6, k7, k8⟩ := L.kx.kdv; obtain ⟨k9, k10, k11, k12⟩ := L.kx.kdn; have hld := big_load0 Try.prog w.heap.size 0 (kcs (KV.mk conv soft seq size opn (.slice Az nz cz) (.slice Ad nd cd) (.slice As ns cs) (.slice Ac nc cc) (d.armed) (d.left) (false) (d.ill))) mk (by rw [HMK.out]; rfl) w3 L.kx.range0; try dsimp only at e0 e1 e2 e3 e4 k5 k6 k7 k8 k9 k10 k11 k12; have HL := Lib.hid L; clear L)
    | ((with_reducible refine wpList_box_bool (o := ⟨none, .store _ _ _, _, _, _, _⟩) rfl _ _ _ rfl w.heap.size 9 _ _ (decide (0 ≤ x.n)) _ rfl rfl HL.out.kx (kc9 _) size_bool ?_); intro w31 hw31; have L31 := HL.out.put 9 (.bool (decide (0 ≤ x.n))) (KV.mk conv soft seq size opn (.slice Az nz cz) (.slice Ad nd cd) (.slice As ns cs) (.slice Ac nc cc) (decide (0 ≤ x.n)) (d.left) (false) (d.ill)) { d with armed := decide (0 ≤ x.n) } rfl ⟨HL.out.is.fg, HL.out.is.fz, HL.out.is.fd, HL.out.is.fs, HL.out.is.fc, HL.out.is.fsum, ⟨rfl, HL.out.is.fnum.2.1, HL.out.is.fnum.2.2.1, HL.out.is.fnum.2.2.2.1, HL.out.is.fnum.2.2.2.2.1, HL.out.is.fnum.2.2.2.2.2⟩⟩; rw [← hw31] at L31; clear hw31 a0 a1 a2 a67 e0 e1 e2 e3 e4 k5 k6 k7 k8 k9 k10 k11 k12 hld; obtain ⟨a0, a1, a2, a67, _, _, _⟩ := L31.ax.act HP.out; obtain ⟨e0, e1, e2, e3, e4⟩ := L31.kx.kd; obtain ⟨k5, k6, k7, k8⟩ := L31.kx.kdv; obtain ⟨k9, k10, k11, k12⟩ := L31.kx.kdn; have hld := big_load0 Try.prog w.heap.size 0 (kcs (KV.mk conv soft seq size opn (.slice Az nz cz) (.slice Ad nd cd) (.slice As ns cs) (.slice Ac nc cc) (decide (0 ≤ x.n)) (d.left) (false) (d.ill))) mk (by rw [HMK.out]; rfl) w31 L31.kx.range0; try dsimp only at e0 e1 e2 e3 e4 k5 k6 k7 k8 k9 k10 k11 k12; have HL31 := Lib.hid L31; clear L31)
    | ((with_reducible refine wpList_box_int (o := ⟨none, .store _ _ _, _, _, _, _⟩) rfl _ _ _ rfl w.heap.size 10 _ _ x.n _ rfl rfl HL31.out.kx (kc10 _) size_i64 ?_); intro w32 hw32; have L32 := HL31.out.put 10 (.int .i64 x.n) (KV.mk conv soft seq size opn (.slice Az nz cz) (.slice Ad nd cd) (.slice As ns cs) (.slice Ac nc cc) (decide (0 ≤ x.n)) (x.n) (false) (d.ill)) { d with armed := decide (0 ≤ x.n), left := x.n } rfl ⟨HL31.out.is.fg, HL31.out.is.fz, HL31.out.is.fd, HL31.out.is.fs, HL31.out.is.fc, HL31.out.is.fsum, ⟨HL31.out.is.fnum.1, rfl, HL31.out.is.fnum.2.2.1, HL31.out.is.fnum.2.2.2.1, HL31.out.is.fnum.2.2.2.2.1, HL31.out.is.fnum.2.2.2.2.2⟩⟩; rw [← hw32] at L32; clear hw32 a0 a1 a2 a67 e0 e1 e2 e3 e4 k5 k6 k7 k8 k9 k10 k11 k12 hld; obtain ⟨a0, a1, a2, a67, _, _, _⟩ := L32.ax.act HP.out; obtain ⟨e0, e1, e2, e3, e4⟩ := L32.kx.kd; obtain ⟨k5, k6, k7, k8⟩ := L32.kx.kdv; obtain ⟨k9, k10, k11, k12⟩ := L32.kx.kdn; have hld := big_load0 Try.prog w.heap.size 0 (kcs (KV.mk conv soft seq size opn (.slice Az nz cz) (.slice Ad nd cd) (.slice As ns cs) (.slice Ac nc cc) (decide (0 ≤ x.n)) (x.n) (false) (d.ill))) mk (by rw [HMK.out]; rfl) w32 L32.kx.range0; try dsimp only at e0 e1 e2 e3 e4 k5 k6 k7 k8 k9 k10 k11 k12; have HL32 := Lib.hid L32; clear L32)
    | ((with_reducible refine wpList_box_bool (o := ⟨none, .store _ _ _, _, _, _, _⟩) rfl _ _ _ rfl w.heap.size 11 _ _ (x.n == 0) _ rfl rfl HL32.out.kx (kc11 _) size_bool ?_); intro w33 hw33; have L33 := HL32.out.put 11 (.bool (x.n == 0)) (KV.mk conv soft seq size opn (.slice Az nz cz) (.slice Ad nd cd) (.slice As ns cs) (.slice Ac nc cc) (decide (0 ≤ x.n)) (x.n) (x.n == 0) (d.ill)) { d with armed := decide (0 ≤ x.n), left := x.n, down := x.n == 0 } rfl ⟨HL32.out.is.fg, HL32.out.is.fz, HL32.out.is.fd, HL32.out.is.fs, HL32.out.is.fc, HL32.out.is.fsum, ⟨HL32.out.is.fnum.1, HL32.out.is.fnum.2.1, rfl, HL32.out.is.fnum.2.2.2.1, HL32.out.is.fnum.2.2.2.2.1, HL32.out.is.fnum.2.2.2.2.2⟩⟩; rw [← hw33] at L33; clear hw33 a0 a1 a2 a67 e0 e1 e2 e3 e4 k5 k6 k7 k8 k9 k10 k11 k12 hld; obtain ⟨a0, a1, a2, a67, _, _, _⟩ := L33.ax.act HP.out; obtain ⟨e0, e1, e2, e3, e4⟩ := L33.kx.kd; obtain ⟨k5, k6, k7, k8⟩ := L33.kx.kdv; obtain ⟨k9, k10, k11, k12⟩ := L33.kx.kdn; have hld := big_load0 Try.prog w.heap.size 0 (kcs (KV.mk conv soft seq size opn (.slice Az nz cz) (.slice Ad nd cd) (.slice As ns cs) (.slice Ac nc cc) (decide (0 ≤ x.n)) (x.n) (x.n == 0) (d.ill))) mk (by rw [HMK.out]; rfl) w33 L33.kx.range0; try dsimp only at e0 e1 e2 e3 e4 k5 k6 k7 k8 k9 k10 k11 k12; have HL33 := Lib.hid L33; clear L33)
    | ((refine wpList_kd_store (o := ⟨none, .store _ _ _, _, _, _, _⟩) rfl _ _ rfl (w.heap.size + 1 + 1) (KV.mk conv soft seq size opn (.slice Az nz cz) (.slice Ad nd cd) (.slice As ns cs) (.slice Ac nc cc) (decide (0 ≤ x.n)) (x.n) (x.n == 0) (d.ill)) kd0 hkok rfl rfl HL33.out.rx ?_); intro w9 hb9 hg9 hs9; clear hs9)
    | fail)
  have hldF := big_load0 Try.prog (w.heap.size + 1 + 1) 0 (kcs (KV.mk conv soft seq size opn (.slice Az nz cz) (.slice Ad nd cd) (.slice As ns cs) (.slice Ac nc cc) (decide (0 ≤ x.n)) (x.n) (x.n == 0) (d.ill))) mk (by rw [HMK.out]; rfl) _ hb9.range0
  have HE := Lib.hid (HL33.out.done (M := N + 1) hg9 (by have h1 := HB.out.2.1; (try dsimp only); omega) (by have h1 := HB.out.2.2; (try dsimp only); omega) (by have h1 := HB.out.2.2; (try dsimp only); omega))
  have hfin : DkIs (N + 1) conv soft seq size opn (fun k => Q k ∨ w.heap.size ≤ k) w9 (KV.mk conv soft seq size opn (.slice Az nz cz) (.slice Ad nd cd) (.slice As ns cs) (.slice Ac nc cc) (decide (0 ≤ x.n)) (x.n) (x.n == 0) (d.ill)) (armK d x.n) := by rw [show armK d x.n = { d with armed := decide (0 ≤ x.n), left := x.n, down := x.n == 0 } from if_neg (by rw [hdn0.out]; simp)]; exact HE.out.1
  generalize hR : kcs (KV.mk conv soft seq size opn (.slice Az nz cz) (.slice Ad nd cd) (.slice As ns cs) (.slice Ac nc cc) (decide (0 ≤ x.n)) (x.n) (x.n == 0) (d.ill)) = R at hldF ⊢
  refine bodyPost_ret (v := .tuple #[.agg R.toArray, .int .i64 0]) (by simp [results, Try.results9, go_sem, hszk, hldF]) rfl ?_
  first
    | exact ⟨(KV.mk conv soft seq size opn (.slice Az nz cz) (.slice Ad nd cd) (.slice As ns cs) (.slice Ac nc cc) (decide (0 ≤ x.n)) (x.n) (x.n == 0) (d.ill)), 0, by rw [hR], hfin, HE.out.2⟩
    | exact ⟨(KV.mk conv soft seq size opn (.slice Az nz cz) (.slice Ad nd cd) (.slice As ns cs) (.slice Ac nc cc) (decide (0 ≤ x.n)) (x.n) (x.n == 0) (d.ill)), ⟨0, by rw [hR]⟩, hfin, HE.out.2⟩

set_option maxRecDepth 100000 in
set_option maxHeartbeats 4000000 in
theorem do_reset_down (N : Nat) (conv soft seq size opn : Int) (Q : Nat → Prop) (v : KV) (d : Dk) (x : AD) (w : World) (hN : N ≤ 900) (hok : Ok conv soft seq size opn) (hfit : Fit conv seq size opn d.L) (hI : DkIs N conv soft seq size opn Q w v d) (hx : AIn w x) (hk : x.k % 9 = 4) (hdn : d.down = true) :
    Calls Try.prog 9 #[.agg (kcs v).toArray, .agg (acs x).toArray] w fun e w' => ∃ v' er, e = .returned (.tuple #[.agg (kcs v').toArray, .int .i64 er]) ∧ DkIs (N + 1) conv soft seq size opn (fun k => Q k ∨ w.heap.size ≤ k) w' v' ((resetK conv soft seq size opn d x.a).1) ∧ Below w.heap.size w w' := by
  obtain ⟨Az, nz, cz, Ad, nd, cd, As, ns, cs, Ac, nc, cc, rfl, ⟨hzl, hzn⟩, ⟨hdl, hdle⟩, hsl, hcl, hsum, hi0, hi1⟩ := hI.form
  rw [hdn] at hI ⊢
  obtain ⟨mk, hmk, hszk⟩ := big_size (P := Try.prog) (t := 36) (s := 13) (by kernel_rfl)
  have hmk0 : ¬ mk = 0 := by omega
  have HMK := Lib.hid hmk
  have HP := Lib.hid hx.p
  have HX := Lib.hid hx
  have HI := Lib.hid hI
  have HO := Lib.hid (And.intro hok hfit)
  have HB := Lib.hid (And.intro (And.intro hzl hzn) (And.intro (And.intro hdl hdle) (And.intro hsl (And.intro hcl (And.intro hsum (And.intro hi0 (And.intro hi1 hN)))))))
  have hk0 := hx.k0
  have hk1 := hx.k1
  have hi2 : d.ill ≤ 900 := by omega
  clear hmk hx hI hok hfit hzl hzn hdl hdle hsl hcl hsum hi1
  have hdn0 := Lib.hid hdn
  go_enter Try.func9, Try.ntmps9
  have hkok : KOk (KV.mk conv soft seq size opn (.slice Az nz cz) (.slice Ad nd cd) (.slice As ns cs) (.slice Ac nc cc) (d.armed) (d.left) (true) (d.ill)) := ⟨rfl, rfl, rfl, rfl⟩
  go_wp2_with (first
    | ((with_reducible refine wpList_kd_box (o := ⟨some 2, .box _ _, _, _, _, _⟩) rfl _ rfl (KV.mk conv soft seq size opn (.slice Az nz cz) (.slice Ad nd cd) (.slice As ns cs) (.slice Ac nc cc) (d.armed) (d.left) (true) (d.ill)) rfl ?_); intro w1 x0 hB1 hs1)
    | ((with_reducible refine wpList_act_box (o := ⟨some 3, .box _ _, _, _, _, _⟩) rfl _ rfl x rfl ?_); intro w2 x1 hB2 hs2)
    | ((with_reducible refine wpList_kd_alloc (o := ⟨some 4, .alloc _, _, _, _, _⟩) rfl rfl ?_); intro w3 x2 hB3 hs3; have L := DoX.start (M := 4000) HI.out (by have := HB.out.2.2.2.2.2.2; omega) x0 hB1 hs1 x1 hB2 hs2 x2 hB3 hs3; rw [hs2, hs1]; clear hs1 hs2 hs3 x0 x1 x2 hB1 hB2 hB3; obtain ⟨a0, a1, a2, a67, _, _, _⟩ := L.ax.act HP.out; obtain ⟨e0, e1, e2, e3, e4⟩ := L.kx.kd; obtain ⟨k5, k6, k7, k8⟩ := L.kx.kdv; obtain ⟨k9, k10, k11, k12⟩ := L.kx.kdn; have hld := big_load0 Try.prog w.heap.size 0 (kcs (KV.mk conv soft seq size opn (.slice Az nz cz) (.slice Ad nd cd) (.slice As ns cs) (.slice Ac nc cc) (d.armed) (d.left) (true) (d.ill))) mk (by rw [HMK.out]; rfl) w3 L.kx.range0; try dsimp only at e0 e1 e2 e3 e4 k5 k6 k7 k8 k9 k10 k11 k12; have HL := Lib.hid L; clear L)
    | ((refine wpList_kd_store (o := ⟨none, .store _ _ _, _, _, _, _⟩) rfl _ _ rfl (w.heap.size + 1 + 1) (KV.mk conv soft seq size opn (.slice Az nz cz) (.slice Ad nd cd) (.slice As ns cs) (.slice Ac nc cc) (d.armed) (d.left) (true) (d.ill)) kd0 hkok rfl rfl HL.out.rx ?_); intro w9 hb9 hg9 hs9; clear hs9)
    | fail)
  have hldF := big_load0 Try.prog (w.heap.size + 1 + 1) 0 (kcs (KV.mk conv soft seq size opn (.slice Az nz cz) (.slice Ad nd cd) (.slice As ns cs) (.slice Ac nc cc) (d.armed) (d.left) (true) (d.ill))) mk (by rw [HMK.out]; rfl) _ hb9.range0
  have HE := Lib.hid (HL.out.done (M := N + 1) hg9 (by have h1 := HB.out.2.1; (try dsimp only); omega) (by have h1 := HB.out.2.2; (try dsimp only); omega) (by have h1 := HB.out.2.2; (try dsimp only); omega))
  have hfin : DkIs (N + 1) conv soft seq size opn (fun k => Q k ∨ w.heap.size ≤ k) w9 (KV.mk conv soft seq size opn (.slice Az nz cz) (.slice Ad nd cd) (.slice As ns cs) (.slice Ac nc cc) (d.armed) (d.left) (true) (d.ill)) ((resetK conv soft seq size opn d x.a).1) := by rw [show (resetK conv soft seq size opn d x.a).1 = d by unfold resetK; rw [if_pos hdn0.out]]; exact HE.out.1
  generalize hR : kcs (KV.mk conv soft seq size opn (.slice Az nz cz) (.slice Ad nd cd) (.slice As ns cs) (.slice Ac nc cc) (d.armed) (d.left) (true) (d.ill)) = R at hldF ⊢
  refine bodyPost_ret (v := .tuple #[.agg R.toArray, .int .i64 2]) (by simp [results, Try.results9, go_sem, hszk, hldF]) rfl ?_
  first
    | exact ⟨(KV.mk conv soft seq size opn (.slice Az nz cz) (.slice Ad nd cd) (.slice As ns cs) (.slice Ac nc cc) (d.armed) (d.left) (true) (d.ill)), 2, by rw [hR], hfin, HE.out.2⟩
    | exact ⟨(KV.mk conv soft seq size opn (.slice Az nz cz) (.slice Ad nd cd) (.slice As ns cs) (.slice Ac nc cc) (d.armed) (d.left) (true) (d.ill)), ⟨2, by rw [hR]⟩, hfin, HE.out.2⟩

set_option maxRecDepth 100000 in
set_option maxHeartbeats 4000000 in
theorem do_finish_down (N : Nat) (conv soft seq size opn : Int) (Q : Nat → Prop) (v : KV) (d : Dk) (x : AD) (w : World) (hN : N ≤ 900) (hok : Ok conv soft seq size opn) (hfit : Fit conv seq size opn d.L) (hI : DkIs N conv soft seq size opn Q w v d) (hx : AIn w x) (hk : x.k % 9 = 5) (hdn : d.down = true) :
    Calls Try.prog 9 #[.agg (kcs v).toArray, .agg (acs x).toArray] w fun e w' => ∃ v' er, e = .returned (.tuple #[.agg (kcs v').toArray, .int .i64 er]) ∧ DkIs (N + 1) conv soft seq size opn (fun k => Q k ∨ w.heap.size ≤ k) w' v' ((finishK conv soft seq size opn d x.a).1) ∧ Below w.heap.size w w' := by
  obtain ⟨Az, nz, cz, Ad, nd, cd, As, ns, cs, Ac, nc, cc, rfl, ⟨hzl, hzn⟩, ⟨hdl, hdle⟩, hsl, hcl, hsum, hi0, hi1⟩ := hI.form
  rw [hdn] at hI ⊢
  obtain ⟨mk, hmk, hszk⟩ := big_size (P := Try.prog) (t := 36) (s := 13) (by kernel_rfl)
  have hmk0 : ¬ mk = 0 := by omega
  have HMK := Lib.hid hmk
  have HP := Lib.hid hx.p
  have HX := Lib.hid hx
  have HI := Lib.hid hI
  have HO := Lib.hid (And.intro hok hfit)
  have HB := Lib.hid (And.intro (And.intro hzl hzn) (And.intro (And.intro hdl hdle) (And.intro hsl (And.intro hcl (And.intro hsum (And.intro hi0 (And.intro hi1 hN)))))))
  have hk0 := hx.k0
  have hk1 := hx.k1
  have hi2 : d.ill ≤ 900 := by omega
  clear hmk hx hI hok hfit hzl hzn hdl hdle hsl hcl hsum hi1
  have hdn0 := Lib.hid hdn
  go_enter Try.func9, Try.ntmps9
  have hkok : KOk (KV.mk conv soft seq size opn (.slice Az nz cz) (.slice Ad nd cd) (.slice As ns cs) (.slice Ac nc cc) (d.armed) (d.left) (true) (d.ill)) := ⟨rfl, rfl, rfl, rfl⟩
  go_wp2_with (first
    | ((with_reducible refine wpList_kd_box (o := ⟨some 2, .box _ _, _, _, _, _⟩) rfl _ rfl (KV.mk conv soft seq size opn (.slice Az nz cz) (.slice Ad nd cd) (.slice As ns cs) (.slice Ac nc cc) (d.armed) (d.left) (true) (d.ill)) rfl ?_); intro w1 x0 hB1 hs1)
    | ((with_reducible refine wpList_act_box (o := ⟨some 3, .box _ _, _, _, _, _⟩) rfl _ rfl x rfl ?_); intro w2 x1 hB2 hs2)
    | ((with_reducible refine wpList_kd_alloc (o := ⟨some 4, .alloc _, _, _, _, _⟩) rfl rfl ?_); intro w3 x2 hB3 hs3; have L := DoX.start (M := 4000) HI.out (by have := HB.out.2.2.2.2.2.2; omega) x0 hB1 hs1 x1 hB2 hs2 x2 hB3 hs3; rw [hs2, hs1]; clear hs1 hs2 hs3 x0 x1 x2 hB1 hB2 hB3; obtain ⟨a0, a1, a2, a67, _, _, _⟩ := L.ax.act HP.out; obtain ⟨e0, e1, e2, e3, e4⟩ := L.kx.kd; obtain ⟨k5, k6, k7, k8⟩ := L.kx.kdv; obtain ⟨k9, k10, k11, k12⟩ := L.kx.kdn; have hld := big_load0 Try.prog w.heap.size 0 (kcs (KV.mk conv soft seq size opn (.slice Az nz cz) (.slice Ad nd cd) (.slice As ns cs) (.slice Ac nc cc) (d.armed) (d.left) (true) (d.ill))) mk (by rw [HMK.out]; rfl) w3 L.kx.range0; try dsimp only at e0 e1 e2 e3 e4 k5 k6 k7 k8 k9 k10 k11 k12; have HL := Lib.hid L; clear L)
    | ((refine wpList_kd_store (o := ⟨none, .store _ _ _, _, _, _, _⟩) rfl _ _ rfl (w.heap.size + 1 + 1) (KV.mk conv soft seq size opn (.slice Az nz cz) (.slice Ad nd cd) (.slice As ns cs) (.slice Ac nc cc) (d.armed) (d.left) (true) (d.ill)) kd0 hkok rfl rfl HL.out.rx ?_); intro w9 hb9 hg9 hs9; clear hs9)
    | fail)
  have hldF := big_load0 Try.prog (w.heap.size + 1 + 1) 0 (kcs (KV.mk conv soft seq size opn (.slice Az nz cz) (.slice Ad nd cd) (.slice As ns cs) (.slice Ac nc cc) (d.armed) (d.left) (true) (d.ill))) mk (by rw [HMK.out]; rfl) _ hb9.range0
  have HE := Lib.hid (HL.out.done (M := N + 1) hg9 (by have h1 := HB.out.2.1; (try dsimp only); omega) (by have h1 := HB.out.2.2; (try dsimp only); omega) (by have h1 := HB.out.2.2; (try dsimp only); omega))
  have hfin : DkIs (N + 1) conv soft seq size opn (fun k => Q k ∨ w.heap.size ≤ k) w9 (KV.mk conv soft seq size opn (.slice Az nz cz) (.slice Ad nd cd) (.slice As ns cs) (.slice Ac nc cc) (d.armed) (d.left) (true) (d.ill)) ((finishK conv soft seq size opn d x.a).1) := by rw [show (finishK conv soft seq size opn d x.a).1 = d by unfold finishK; rw [if_pos hdn0.out]]; exact HE.out.1
  generalize hR : kcs (KV.mk conv soft seq size opn (.slice Az nz cz) (.slice Ad nd cd) (.slice As ns cs) (.slice Ac nc cc) (d.armed) (d.left) (true) (d.ill)) = R at hldF ⊢
  refine bodyPost_ret (v := .tuple #[.agg R.toArray, .int .i64 2]) (by simp [results, Try.results9, go_sem, hszk, hldF]) rfl ?_
  first
    | exact ⟨(KV.mk conv soft seq size opn (.slice Az nz cz) (.slice Ad nd cd) (.slice As ns cs) (.slice Ac nc cc) (d.armed) (d.left) (true) (d.ill)), 2, by rw [hR], hfin, HE.out.2⟩
    | exact ⟨(KV.mk conv soft seq size opn (.slice Az nz cz) (.slice Ad nd cd) (.slice As ns cs) (.slice Ac nc cc) (d.armed) (d.left) (true) (d.ill)), ⟨2, by rw [hR]⟩, hfin, HE.out.2⟩

set_option maxRecDepth 100000 in
set_option maxHeartbeats 4000000 in
theorem do_flush_down (N : Nat) (conv soft seq size opn : Int) (Q : Nat → Prop) (v : KV) (d : Dk) (x : AD) (w : World) (hN : N ≤ 900) (hok : Ok conv soft seq size opn) (hfit : Fit conv seq size opn d.L) (hI : DkIs N conv soft seq size opn Q w v d) (hx : AIn w x) (hk : x.k % 9 = 6) (hdn : d.down = true) :
    Calls Try.prog 9 #[.agg (kcs v).toArray, .agg (acs x).toArray] w fun e w' => ∃ v' er, e = .returned (.tuple #[.agg (kcs v').toArray, .int .i64 er]) ∧ DkIs (N + 1) conv soft seq size opn (fun k => Q k ∨ w.heap.size ≤ k) w' v' ((flushK d).1) ∧ Below w.heap.size w w' := by
  obtain ⟨Az, nz, cz, Ad, nd, cd, As, ns, cs, Ac, nc, cc, rfl, ⟨hzl, hzn⟩, ⟨hdl, hdle⟩, hsl, hcl, hsum, hi0, hi1⟩ := hI.form
  rw [hdn] at hI ⊢
  obtain ⟨mk, hmk, hszk⟩ := big_size (P := Try.prog) (t := 36) (s := 13) (by kernel_rfl)
  have hmk0 : ¬ mk = 0 := by omega
  have HMK := Lib.hid hmk
  have HP := Lib.hid hx.p
  have HX := Lib.hid hx
  have HI := Lib.hid hI
  have HO := Lib.hid (And.intro hok hfit)
  have HB := Lib.hid (And.intro (And.intro hzl hzn) (And.intro (And.intro hdl hdle) (And.intro hsl (And.intro hcl (And.intro hsum (And.intro hi0 (And.intro hi1 hN)))))))
  have hk0 := hx.k0
  have hk1 := hx.k1
  have hi2 : d.ill ≤ 900 := by omega
  clear hmk hx hI hok hfit hzl hzn hdl hdle hsl hcl hsum hi1
  have hdn0 := Lib.hid hdn
  go_enter Try.func9, Try.ntmps9
  have hkok : KOk (KV.mk conv soft seq size opn (.slice Az nz cz) (.slice Ad nd cd) (.slice As ns cs) (.slice Ac nc cc) (d.armed) (d.left) (true) (d.ill)) := ⟨rfl, rfl, rfl, rfl⟩
  go_wp2_with (first
    | ((with_reducible refine wpList_kd_box (o := ⟨some 2, .box _ _, _, _, _, _⟩) rfl _ rfl (KV.mk conv soft seq size opn (.slice Az nz cz) (.slice Ad nd cd) (.slice As ns cs) (.slice Ac nc cc) (d.armed) (d.left) (true) (d.ill)) rfl ?_); intro w1 x0 hB1 hs1)
    | ((with_reducible refine wpList_act_box (o := ⟨some 3, .box _ _, _, _, _, _⟩) rfl _ rfl x rfl ?_); intro w2 x1 hB2 hs2)
    | ((with_reducible refine wpList_kd_alloc (o := ⟨some 4, .alloc _, _, _, _, _⟩) rfl rfl ?_); intro w3 x2 hB3 hs3; have L := DoX.start (M := 4000) HI.out (by have := HB.out.2.2.2.2.2.2; omega) x0 hB1 hs1 x1 hB2 hs2 x2 hB3 hs3; rw [hs2, hs1]; clear hs1 hs2 hs3 x0 x1 x2 hB1 hB2 hB3; obtain ⟨a0, a1, a2, a67, _, _, _⟩ := L.ax.act HP.out; obtain ⟨e0, e1, e2, e3, e4⟩ := L.kx.kd; obtain ⟨k5, k6, k7, k8⟩ := L.kx.kdv; obtain ⟨k9, k10, k11, k12⟩ := L.kx.kdn; have hld := big_load0 Try.prog w.heap.size 0 (kcs (KV.mk conv soft seq size opn (.slice Az nz cz) (.slice Ad nd cd) (.slice As ns cs) (.slice Ac nc cc) (d.armed) (d.left) (true) (d.ill))) mk (by rw [HMK.out]; rfl) w3 L.kx.range0; try dsimp only at e0 e1 e2 e3 e4 k5 k6 k7 k8 k9 k10 k11 k12; have HL := Lib.hid L; clear L)
    | ((refine wpList_kd_store (o := ⟨none, .store _ _ _, _, _, _, _⟩) rfl _ _ rfl (w.heap.size + 1 + 1) (KV.mk conv soft seq size opn (.slice Az nz cz) (.slice Ad nd cd) (.slice As ns cs) (.slice Ac nc cc) (d.armed) (d.left) (true) (d.ill)) kd0 hkok rfl rfl HL.out.rx ?_); intro w9 hb9 hg9 hs9; clear hs9)
    | fail)
  have hldF := big_load0 Try.prog (w.heap.size + 1 + 1) 0 (kcs (KV.mk conv soft seq size opn (.slice Az nz cz) (.slice Ad nd cd) (.slice As ns cs) (.slice Ac nc cc) (d.armed) (d.left) (true) (d.ill))) mk (by rw [HMK.out]; rfl) _ hb9.range0
  have HE := Lib.hid (HL.out.done (M := N + 1) hg9 (by have h1 := HB.out.2.1; (try dsimp only); omega) (by have h1 := HB.out.2.2; (try dsimp only); omega) (by have h1 := HB.out.2.2; (try dsimp only); omega))
  have hfin : DkIs (N + 1) conv soft seq size opn (fun k => Q k ∨ w.heap.size ≤ k) w9 (KV.mk conv soft seq size opn (.slice Az nz cz) (.slice Ad nd cd) (.slice As ns cs) (.slice Ac nc cc) (d.armed) (d.left) (true) (d.ill)) ((flushK d).1) := by rw [show (flushK d).1 = d by unfold flushK; rw [if_pos hdn0.out]]; exact HE.out.1
  generalize hR : kcs (KV.mk conv soft seq size opn (.slice Az nz cz) (.slice Ad nd cd) (.slice As ns cs) (.slice Ac nc cc) (d.armed) (d.left) (true) (d.ill)) = R at hldF ⊢
  refine bodyPost_ret (v := .tuple #[.agg R.toArray, .int .i64 2]) (by simp [results, Try.results9, go_sem, hszk, hldF]) rfl ?_
  first
    | exact ⟨(KV.mk conv soft seq size opn (.slice Az nz cz) (.slice Ad nd cd) (.slice As ns cs) (.slice Ac nc cc) (d.armed) (d.left) (true) (d.ill)), 2, by rw [hR], hfin, HE.out.2⟩
    | exact ⟨(KV.mk conv soft seq size opn (.slice Az nz cz) (.slice Ad nd cd) (.slice As ns cs) (.slice Ac nc cc) (d.armed) (d.left) (true) (d.ill)), ⟨2, by rw [hR]⟩, hfin, HE.out.2⟩

set_option maxRecDepth 100000 in
set_option maxHeartbeats 4000000 in
theorem do_write_down (N : Nat) (conv soft seq size opn : Int) (Q : Nat → Prop) (v : KV) (d : Dk) (x : AD) (w : World) (hN : N ≤ 900) (hok : Ok conv soft seq size opn) (hfit : Fit conv seq size opn d.L) (hI : DkIs N conv soft seq size opn Q w v d) (hx : AIn w x) (kw : Int) (hk : x.k % 9 = kw) (hkw : kw ≤ 3) (hdn : d.down = true) :
    Calls Try.prog 9 #[.agg (kcs v).toArray, .agg (acs x).toArray] w fun e w' => ∃ v' er, e = .returned (.tuple #[.agg (kcs v').toArray, .int .i64 er]) ∧ DkIs (N + 1) conv soft seq size opn (fun k => Q k ∨ w.heap.size ≤ k) w' v' ((writeK conv soft seq size opn d (x.a.1, x.a.2, x.p)).1) ∧ Below w.heap.size w w' := by
  obtain ⟨Az, nz, cz, Ad, nd, cd, As, ns, cs, Ac, nc, cc, rfl, ⟨hzl, hzn⟩, ⟨hdl, hdle⟩, hsl, hcl, hsum, hi0, hi1⟩ := hI.form
  rw [hdn] at hI ⊢
  obtain ⟨mk, hmk, hszk⟩ := big_size (P := Try.prog) (t := 36) (s := 13) (by kernel_rfl)
  have hmk0 : ¬ mk = 0 := by omega
  have HMK := Lib.hid hmk
  have HP := Lib.hid hx.p
  have HX := Lib.hid hx
  have HI := Lib.hid hI
  have HO := Lib.hid (And.intro hok hfit)
  have HB := Lib.hid (And.intro (And.intro hzl hzn) (And.intro (And.intro hdl hdle) (And.intro hsl (And.intro hcl (And.intro hsum (And.intro hi0 (And.intro hi1 hN)))))))
  have hk0 := hx.k0
  have hk1 := hx.k1
  have hi2 : d.ill ≤ 900 := by omega
  clear hmk hx hI hok hfit hzl hzn hdl hdle hsl hcl hsum hi1
  have hdn0 := Lib.hid hdn
  have hb7 : (kw == 7) = false := by simp; omega
  have hb8 : (kw == 8) = false := by simp; omega
  go_enter Try.func9, Try.ntmps9
  have hkok : KOk (KV.mk conv soft seq size opn (.slice Az nz cz) (.slice Ad nd cd) (.slice As ns cs) (.slice Ac nc cc) (d.armed) (d.left) (true) (d.ill)) := ⟨rfl, rfl, rfl, rfl⟩
  go_wp2_with (first
    | ((with_reducible refine wpList_kd_box (o := ⟨some 2, .box _ _, _, _, _, _⟩) rfl _ rfl (KV.mk conv soft seq size opn (.slice Az nz cz) (.slice Ad nd cd) (.slice As ns cs) (.slice Ac nc cc) (d.armed) (d.left) (true) (d.ill)) rfl ?_); intro w1 x0 hB1 hs1)
    | ((with_reducible refine wpList_act_box (o := ⟨some 3, .box _ _, _, _, _, _⟩) rfl _ rfl x rfl ?_); intro w2 x1 hB2 hs2)
    | ((with_reducible refine wpList_kd_alloc (o := ⟨some 4, .alloc _, _, _, _, _⟩) rfl rfl ?_); intro w3 x2 hB3 hs3; have L := DoX.start (M := 4000) HI.out (by have := HB.out.2.2.2.2.2.2; omega) x0 hB1 hs1 x1 hB2 hs2 x2 hB3 hs3; rw [hs2, hs1]; clear hs1 hs2 hs3 x0 x1 x2 hB1 hB2 hB3; obtain ⟨a0, a1, a2, a67, _, _, _⟩ := L.ax.act HP.out; obtain ⟨e0, e1, e2, e3, e4⟩ := L.kx.kd; obtain ⟨k5, k6, k7, k8⟩ := L.kx.kdv; obtain ⟨k9, k10, k11, k12⟩ := L.kx.kdn; have hld := big_load0 Try.prog w.heap.size 0 (kcs (KV.mk conv soft seq size opn (.slice Az nz cz) (.slice Ad nd cd) (.slice As ns cs) (.slice Ac nc cc) (d.armed) (d.left) (true) (d.ill))) mk (by rw [HMK.out]; rfl) w3 L.kx.range0; try dsimp only at e0 e1 e2 e3 e4 k5 k6 k7 k8 k9 k10 k11 k12; have HL := Lib.hid L; clear L)
    | ((refine wpList_kd_store (o := ⟨none, .store _ _ _, _, _, _, _⟩) rfl _ _ rfl (w.heap.size + 1 + 1) (KV.mk conv soft seq size opn (.slice Az nz cz) (.slice Ad nd cd) (.slice As ns cs) (.slice Ac nc cc) (d.armed) (d.left) (true) (d.ill)) kd0 hkok rfl rfl HL.out.rx ?_); intro w9 hb9 hg9 hs9; clear hs9)
    | fail)
  have hldF := big_load0 Try.prog (w.heap.size + 1 + 1) 0 (kcs (KV.mk conv soft seq size opn (.slice Az nz cz) (.slice Ad nd cd) (.slice As ns cs) (.slice Ac nc cc) (d.armed) (d.left) (true) (d.ill))) mk (by rw [HMK.out]; rfl) _ hb9.range0
  have HE := Lib.hid (HL.out.done (M := N + 1) hg9 (by have h1 := HB.out.2.1; (try dsimp only); omega) (by have h1 := HB.out.2.2; (try dsimp only); omega) (by have h1 := HB.out.2.2; (try dsimp only); omega))
  have hfin : DkIs (N + 1) conv soft seq size opn (fun k => Q k ∨ w.heap.size ≤ k) w9 (KV.mk conv soft seq size opn (.slice Az nz cz) (.slice Ad nd cd) (.slice As ns cs) (.slice Ac nc cc) (d.armed) (d.left) (true) (d.ill)) ((writeK conv soft seq size opn d (x.a.1, x.a.2, x.p)).1) := by rw [show (writeK conv soft seq size opn d (x.a.1, x.a.2, x.p)).1 = d by unfold writeK; rw [if_pos hdn0.out]]; exact HE.out.1
  generalize hR : kcs (KV.mk conv soft seq size opn (.slice Az nz cz) (.slice Ad nd cd) (.slice As ns cs) (.slice Ac nc cc) (d.armed) (d.left) (true) (d.ill)) = R at hldF ⊢
  refine bodyPost_ret (v := .tuple #[.agg R.toArray, .int .i64 2]) (by simp [results, Try.results9, go_sem, hszk, hldF]) rfl ?_
  first
    | exact ⟨(KV.mk conv soft seq size opn (.slice Az nz cz) (.slice Ad nd cd) (.slice As ns cs) (.slice Ac nc cc) (d.armed) (d.left) (true) (d.ill)), 2, by rw [hR], hfin, HE.out.2⟩
    | exact ⟨(KV.mk conv soft seq size opn (.slice Az nz cz) (.slice Ad nd cd) (.slice As ns cs) (.slice Ac nc cc) (d.armed) (d.left) (true) (d.ill)), ⟨2, by rw [hR]⟩, hfin, HE.out.2⟩
end Go.Proofs.Ytkdhibjmfanhcaa

/-
  The document's answers for layer 5: Do, way by way.
-/
namespace Go.Proofs.Ytkdhibjmfanhcaa
open Go.RowKit Geom Zone Dev
set_option linter.unusedVariables false

set_option maxRecDepth 100000 in
set_option maxHeartbeats 4000000 in
theorem do_flush_tick (N : Nat) (conv soft seq size opn : Int) (Q : Nat → Prop) (v : KV) (d : Dk) (x : AD) (w : World) (hN : N ≤ 900) (hok : Ok conv soft seq size opn) (hfit : Fit conv seq size opn d.L) (hI : DkIs N conv soft seq size opn Q w v d) (hx : AIn w x) (hk : x.k % 9 = 6) (hdn : d.down = false) (har : d.armed = true) (hl0 : 0 < d.left) (hl1 : d.left < 9223372036854775808) :
    Calls Try.prog 9 #[.agg (kcs v).toArray, .agg (acs x).toArray] w fun e w' => ∃ v' er, e = .returned (.tuple #[.agg (kcs v').toArray, .int .i64 er]) ∧ DkIs (N + 1) conv soft seq size opn (fun k => Q k ∨ w.heap.size ≤ k) w' v' ((flushK d).1) ∧ Below w.heap.size w w' := by
  obtain ⟨Az, nz, cz, Ad, nd, cd, As, ns, cs, Ac, nc, cc, rfl, ⟨hzl, hzn⟩, ⟨hdl, hdle⟩, hsl, hcl, hsum, hi0, hi1⟩ := hI.form
  rw [hdn] at hI ⊢
  rw [har] at hI ⊢
  obtain ⟨mk, hmk, hszk⟩ := big_size (P := Try.prog) (t := 36) (s := 13) (by kernel_rfl)
  have hmk0 : ¬ mk = 0 := by omega
  have HMK := Lib.hid hmk
  have HP := Lib.hid hx.p
  have HX := Lib.hid hx
  have HI := Lib.hid hI
  have HO := Lib.hid (And.intro hok hfit)
  have HB := Lib.hid (And.intro (And.intro hzl hzn) (And.intro (And.intro hdl hdle) (And.intro hsl (And.intro hcl (And.intro hsum (And.intro hi0 (And.intro hi1 hN)))))))
  have hk0 := hx.k0
  have hk1 := hx.k1
  have hi2 : d.ill ≤ 900 := by omega
  clear hmk hx hI hok hfit hzl hzn hdl hdle hsl hcl hsum hi1
  have hdn0 := Lib.hid hdn
  have har0 := Lib.hid har
  go_enter Try.func9, Try.ntmps9
  go_wp2_with (first
    | ((with_reducible refine wpList_kd_box (o := ⟨some 2, .box _ _, _, _, _, _⟩) rfl _ rfl (KV.mk conv soft seq size opn (.slice Az nz cz) (.slice Ad nd cd) (.slice As ns cs) (.slice Ac nc cc) (true) (d.left) (false) (d.ill)) rfl ?_); intro w1 x0 hB1 hs1)
    | ((with_reducible refine wpList_act_box (o := ⟨some 3, .box _ _, _, _, _, _⟩) rfl _ rfl x rfl ?_); intro w2 x1 hB2 hs2)
    | ((with_reducible refine wpList_kd_alloc (o := ⟨some 4, .alloc _, _, _, _, _⟩) rfl rfl ?_); intro w3 x2 hB3 hs3; have L := DoX.start (M := 4000) HI.out (by have := HB.out.2.2.2.2.2.2; omega) x0 hB1 hs1 x1 hB2 hs2 x2 hB3 hs3; rw [hs2, hs1]; clear hs1 hs2 hs3 x0 x1 x2 hB1 hB2 hB3; obtain ⟨a0, a1, a2, a67, _, _, _⟩ := L.ax.act HP.out; obtain ⟨e0, e1, e2, e3, e4⟩ := L.kx.kd; obtain ⟨k5, k6, k7, k8⟩ := L.kx.kdv; obtain ⟨k9, k10, k11, k12⟩ := L.kx.kdn; have hld := big_load0 Try.prog w.heap.size 0 (kcs (KV.mk conv soft seq size opn (.slice Az nz cz) (.slice Ad nd cd) (.slice As ns cs) (.slice Ac nc cc) (true) (d.left) (false) (d.ill))) mk (by rw [HMK.out]; rfl) w3 L.kx.range0; try dsimp only at e0 e1 e2 e3 e4 k5 k6 k7 k8 k9 k10 k11 k12; have HL := Lib.hid L; clear L)
    | ((with_reducible refine wpList_box_slice (o := ⟨none, .store _ _ _, _, _, _, _⟩) rfl _ _ _ rfl w.heap.size 5 _ _ Az _ cz _ rfl rfl HL.out.kx (kc5 _) size_rzones ?_); intro w34 hw34; have L34 := HL.out.put 5 (.slice Az nz cz) (KV.mk conv soft seq size opn (.slice Az nz cz) (.slice Ad nd cd) (.slice As ns cs) (.slice Ac nc cc) (true) (d.left) (false) (d.ill)) d rfl ⟨HL.out.is.fg, HL.out.is.fz, HL.out.is.fd, HL.out.is.fs, HL.out.is.fc, HL.out.is.fsum, ⟨HL.out.is.fnum.1, HL.out.is.fnum.2.1, HL.out.is.fnum.2.2.1, HL.out.is.fnum.2.2.2.1, HL.out.is.fnum.2.2.2.2.1, HL.out.is.fnum.2.2.2.2.2⟩⟩; rw [← hw34] at L34; clear hw34 a0 a1 a2 a67 e0 e1 e2 e3 e4 k5 k6 k7 k8 k9 k10 k11 k12 hld; obtain ⟨a0, a1, a2, a67, _, _, _⟩ := L34.ax.act HP.out; obtain ⟨e0, e1, e2, e3, e4⟩ := L34.kx.kd; obtain ⟨k5, k6, k7, k8⟩ := L34.kx.kdv; obtain ⟨k9, k10, k11, k12⟩ := L34.kx.kdn; have hld := big_load0 Try.prog w.heap.size 0 (kcs (KV.mk conv soft seq size opn (.slice Az nz cz) (.slice Ad nd cd) (.slice As ns cs) (.slice Ac nc cc) (true) (d.left) (false) (d.ill))) mk (by rw [HMK.out]; rfl) w34 L34.kx.range0; try dsimp only at e0 e1 e2 e3 e4 k5 k6 k7 k8 k9 k10 k11 k12; have HL34 := Lib.hid L34; clear L34)
    | fail)
  refine (dcat_any As Ac ns cs nc cc d.safe d.cached w34 HB.out.2.2.1 HB.out.2.2.2.1 (by have := HB.out.2.2; omega) (by have := HB.out.2.2; omega) (HL34.out.is.srow rfl).2.1 (HL34.out.is.crow rfl).2.1 (HL34.out.is.srow rfl).2.2.row (HL34.out.is.crow rfl).2.2.row).mono ?_
  rintro e w5 ⟨V, rfl, hown, hb⟩
  obtain ⟨A2, c2, hV⟩ := own_slice hown
  subst hV
  obtain ⟨n2, hn2⟩ : ∃ n, (d.safe ++ d.cached).length = n := ⟨_, rfl⟩
  rw [hn2] at hown ⊢
  have HW2 := Lib.hid (And.intro (wok_append (HL34.out.is.srow rfl).2.1 (HL34.out.is.crow rfl).2.1) (RowQ.own hown (VV.far (Q := Q) HL34.out.sz)))
  have HLn := Lib.hid (show (d.safe ++ d.cached).length = n2 ∧ n2 ≤ 1800 by refine ⟨hn2, ?_⟩; rw [← hn2]; simp only [List.length_append]; have := HB.out.2.2; omega)
  clear hn2
  have L5 := HL34.out.on hb
  clear hown hb a0 a1 a2 a67 e0 e1 e2 e3 e4 k5 k6 k7 k8 k9 k10 k11 k12 hld
  obtain ⟨a0, a1, a2, a67, _, _, _⟩ := L5.ax.act HP.out; obtain ⟨e0, e1, e2, e3, e4⟩ := L5.kx.kd; obtain ⟨k5, k6, k7, k8⟩ := L5.kx.kdv; obtain ⟨k9, k10, k11, k12⟩ := L5.kx.kdn; have hld := big_load0 Try.prog w.heap.size 0 (kcs (KV.mk conv soft seq size opn (.slice Az nz cz) (.slice Ad nd cd) (.slice As ns cs) (.slice Ac nc cc) (true) (d.left) (false) (d.ill))) mk (by rw [HMK.out]; rfl) w5 L5.kx.range0; try dsimp only at e0 e1 e2 e3 e4 k5 k6 k7 k8 k9 k10 k11 k12
  have HL5 := Lib.hid L5
  clear L5
  have hkok : KOk (KV.mk conv soft seq size opn (.slice Az nz cz) (.slice Ad nd cd) (.slice A2 n2 c2) (.slice none 0 0) (true) (d.left - 1) (d.left - 1 == 0) (d.ill)) := ⟨rfl, rfl, rfl, rfl⟩
  go_wp2_with (first
    | ((with_reducible refine wpList_box_slice (o := ⟨none, .store _ _ _, _, _, _, _⟩) rfl _ _ _ rfl w.heap.size 7 _ _ A2 _ c2 _ rfl rfl HL5.out.kx (kc7 _) size_rcells ?_); intro w35 hw35; have L35 := HL5.out.put 7 (.slice A2 n2 c2) (KV.mk conv soft seq size opn (.slice Az nz cz) (.slice Ad nd cd) (.slice A2 n2 c2) (.slice Ac nc cc) (true) (d.left) (false) (d.ill)) { d with safe := d.safe ++ d.cached } rfl ⟨HL5.out.is.fg, HL5.out.is.fz, HL5.out.is.fd, ⟨A2, n2, c2, rfl, HLn.out.1, HW2.out.1, HW2.out.2.on0 (Below.refl _ _)⟩, HL5.out.is.fc, (by have h1 := HLn.out; have h2 := HB.out.2.2; dsimp only; omega), ⟨HL5.out.is.fnum.1, HL5.out.is.fnum.2.1, HL5.out.is.fnum.2.2.1, HL5.out.is.fnum.2.2.2.1, HL5.out.is.fnum.2.2.2.2.1, HL5.out.is.fnum.2.2.2.2.2⟩⟩; rw [← hw35] at L35; clear hw35 a0 a1 a2 a67 e0 e1 e2 e3 e4 k5 k6 k7 k8 k9 k10 k11 k12 hld; obtain ⟨a0, a1, a2, a67, _, _, _⟩ := L35.ax.act HP.out; obtain ⟨e0, e1, e2, e3, e4⟩ := L35.kx.kd; obtain ⟨k5, k6, k7, k8⟩ := L35.kx.kdv; obtain ⟨k9, k10, k11, k12⟩ := L35.kx.kdn; have hld := big_load0 Try.prog w.heap.size 0 (kcs (KV.mk conv soft seq size opn (.slice Az nz cz) (.slice Ad nd cd) (.slice A2 n2 c2) (.slice Ac nc cc) (true) (d.left) (false) (d.ill))) mk (by rw [HMK.out]; rfl) w35 L35.kx.range0; try dsimp only at e0 e1 e2 e3 e4 k5 k6 k7 k8 k9 k10 k11 k12; have HL35 := Lib.hid L35; clear L35)
    | ((with_reducible refine wpList_box_slice (o := ⟨none, .store _ _ _, _, _, _, _⟩) rfl _ _ _ rfl w.heap.size 8 _ _ none _ 0 _ rfl rfl HL35.out.kx (kc8 _) size_rcells ?_); intro w36 hw36; have L36 := HL35.out.put 8 (.slice none 0 0) (KV.mk conv soft seq size opn (.slice Az nz cz) (.slice Ad nd cd) (.slice A2 n2 c2) (.slice none 0 0) (true) (d.left) (false) (d.ill)) { d with safe := d.safe ++ d.cached, cached := [] } rfl ⟨HL35.out.is.fg, HL35.out.is.fz, HL35.out.is.fd, HL35.out.is.fs, ⟨none, 0, 0, rfl, rfl, fun c h => (by simp at h), RowQ.empty⟩, (by have h1 := HLn.out; dsimp only; simp only [List.length_nil]; omega), ⟨HL35.out.is.fnum.1, HL35.out.is.fnum.2.1, HL35.out.is.fnum.2.2.1, HL35.out.is.fnum.2.2.2.1, HL35.out.is.fnum.2.2.2.2.1, HL35.out.is.fnum.2.2.2.2.2⟩⟩; rw [← hw36] at L36; clear hw36 a0 a1 a2 a67 e0 e1 e2 e3 e4 k5 k6 k7 k8 k9 k10 k11 k12 hld; obtain ⟨a0, a1, a2, a67, _, _, _⟩ := L36.ax.act HP.out; obtain ⟨e0, e1, e2, e3, e4⟩ := L36.kx.kd; obtain ⟨k5, k6, k7, k8⟩ := L36.kx.kdv; obtain ⟨k9, k10, k11, k12⟩ := L36.kx.kdn; have hld := big_load0 Try.prog w.heap.size 0 (kcs (KV.mk conv soft seq size opn (.slice Az nz cz) (.slice Ad nd cd) (.slice A2 n2 c2) (.slice none 0 0) (true) (d.left) (false) (d.ill))) mk (by rw [HMK.out]; rfl) w36 L36.kx.range0; try dsimp only at e0 e1 e2 e3 e4 k5 k6 k7 k8 k9 k10 k11 k12; have HL36 := Lib.hid L36; clear L36)
    | ((with_reducible refine wpList_box_int (o := ⟨none, .store _ _ _, _, _, _, _⟩) rfl _ _ _ rfl w.heap.size 10 _ _ (d.left - 1) _ rfl rfl HL36.out.kx (kc10 _) size_i64 ?_); intro w37 hw37; have L37 := HL36.out.put 10 (.int .i64 (d.left - 1)) (KV.mk conv soft seq size opn (.slice Az nz cz) (.slice Ad nd cd) (.slice A2 n2 c2) (.slice none 0 0) (true) (d.left - 1) (false) (d.ill)) { d with safe := d.safe ++ d.cached, cached := [], left := d.left - 1 } rfl ⟨HL36.out.is.fg, HL36.out.is.fz, HL36.out.is.fd, HL36.out.is.fs, HL36.out.is.fc, HL36.out.is.fsum, ⟨HL36.out.is.fnum.1, rfl, HL36.out.is.fnum.2.2.1, HL36.out.is.fnum.2.2.2.1, HL36.out.is.fnum.2.2.2.2.1, HL36.out.is.fnum.2.2.2.2.2⟩⟩; rw [← hw37] at L37; clear hw37 a0 a1 a2 a67 e0 e1 e2 e3 e4 k5 k6 k7 k8 k9 k10 k11 k12 hld; obtain ⟨a0, a1, a2, a67, _, _, _⟩ := L37.ax.act HP.out; obtain ⟨e0, e1, e2, e3, e4⟩ := L37.kx.kd; obtain ⟨k5, k6, k7, k8⟩ := L37.kx.kdv; obtain ⟨k9, k10, k11, k12⟩ := L37.kx.kdn; have hld := big_load0 Try.prog w.heap.size 0 (kcs (KV.mk conv soft seq size opn (.slice Az nz cz) (.slice Ad nd cd) (.slice A2 n2 c2) (.slice none 0 0) (true) (d.left - 1) (false) (d.ill))) mk (by rw [HMK.out]; rfl) w37 L37.kx.range0; try dsimp only at e0 e1 e2 e3 e4 k5 k6 k7 k8 k9 k10 k11 k12; have HL37 := Lib.hid L37; clear L37)
    | ((with_reducible refine wpList_box_bool (o := ⟨none, .store _ _ _, _, _, _, _⟩) rfl _ _ _ rfl w.heap.size 11 _ _ (d.left - 1 == 0) _ rfl rfl HL37.out.kx (kc11 _) size_bool ?_); intro w38 hw38; have L38 := HL37.out.put 11 (.bool (d.left - 1 == 0)) (KV.mk conv soft seq size opn (.slice Az nz cz) (.slice Ad nd cd) (.slice A2 n2 c2) (.slice none 0 0) (true) (d.left - 1) (d.left - 1 == 0) (d.ill)) { d with safe := d.safe ++ d.cached, cached := [], left := d.left - 1, down := d.left - 1 == 0 } rfl ⟨HL37.out.is.fg, HL37.out.is.fz, HL37.out.is.fd, HL37.out.is.fs, HL37.out.is.fc, HL37.out.is.fsum, ⟨HL37.out.is.fnum.1, HL37.out.is.fnum.2.1, rfl, HL37.out.is.fnum.2.2.2.1, HL37.out.is.fnum.2.2.2.2.1, HL37.out.is.fnum.2.2.2.2.2⟩⟩; rw [← hw38] at L38; clear hw38 a0 a1 a2 a67 e0 e1 e2 e3 e4 k5 k6 k7 k8 k9 k10 k11 k12 hld; obtain ⟨a0, a1, a2, a67, _, _, _⟩ := L38.ax.act HP.out; obtain ⟨e0, e1, e2, e3, e4⟩ := L38.kx.kd; obtain ⟨k5, k6, k7, k8⟩ := L38.kx.kdv; obtain ⟨k9, k10, k11, k12⟩ := L38.kx.kdn; have hld := big_load0 Try.prog w.heap.size 0 (kcs (KV.mk conv soft seq size opn (.slice Az nz cz) (.slice Ad nd cd) (.slice A2 n2 c2) (.slice none 0 0) (true) (d.left - 1) (d.left - 1 == 0) (d.ill))) mk (by rw [HMK.out]; rfl) w38 L38.kx.range0; try dsimp only at e0 e1 e2 e3 e4 k5 k6 k7 k8 k9 k10 k11 k12; have HL38 := Lib.hid L38; clear L38)
    | ((refine wpList_kd_store (o := ⟨none, .store _ _ _, _, _, _, _⟩) rfl _ _ rfl (w.heap.size + 1 + 1) (KV.mk conv soft seq size opn (.slice Az nz cz) (.slice Ad nd cd) (.slice A2 n2 c2) (.slice none 0 0) (true) (d.left - 1) (d.left - 1 == 0) (d.ill)) kd0 hkok rfl rfl HL38.out.rx ?_); intro w9 hb9 hg9 hs9; clear hs9)
    | fail)
  have hldF := big_load0 Try.prog (w.heap.size + 1 + 1) 0 (kcs (KV.mk conv soft seq size opn (.slice Az nz cz) (.slice Ad nd cd) (.slice A2 n2 c2) (.slice none 0 0) (true) (d.left - 1) (d.left - 1 == 0) (d.ill))) mk (by rw [HMK.out]; rfl) _ hb9.range0
  have HE := Lib.hid (HL38.out.done (M := N + 1) hg9 (by have h1 := HB.out.2.1; (try dsimp only); omega) (by have h1 := HB.out.2.2; (try dsimp only); simp only [List.length_append, List.length_nil]; omega) (by have h1 := HB.out.2.2; (try dsimp only); omega))
  have hfin : DkIs (N + 1) conv soft seq size opn (fun k => Q k ∨ w.heap.size ≤ k) w9 (KV.mk conv soft seq size opn (.slice Az nz cz) (.slice Ad nd cd) (.slice A2 n2 c2) (.slice none 0 0) (true) (d.left - 1) (d.left - 1 == 0) (d.ill)) ((flushK d).1) := by rw [show (flushK d).1 = { d with safe := d.safe ++ d.cached, cached := [], left := d.left - 1, down := d.left - 1 == 0 } by simp [flushK, tickK, hdn0.out, har0.out]]; exact HE.out.1
  generalize hR : kcs (KV.mk conv soft seq size opn (.slice Az nz cz) (.slice Ad nd cd) (.slice A2 n2 c2) (.slice none 0 0) (true) (d.left - 1) (d.left - 1 == 0) (d.ill)) = R at hldF ⊢
  refine bodyPost_ret (v := .tuple #[.agg R.toArray, .int .i64 0]) (by simp [results, Try.results9, go_sem, hszk, hldF]) rfl ?_
  first
    | exact ⟨(KV.mk conv soft seq size opn (.slice Az nz cz) (.slice Ad nd cd) (.slice A2 n2 c2) (.slice none 0 0) (true) (d.left - 1) (d.left - 1 == 0) (d.ill)), 0, by rw [hR], hfin, HE.out.2⟩
    | exact ⟨(KV.mk conv soft seq size opn (.slice Az nz cz) (.slice Ad nd cd) (.slice A2 n2 c2) (.slice none 0 0) (true) (d.left - 1) (d.left - 1 == 0) (d.ill)), ⟨0, by rw [hR]⟩, hfin, HE.out.2⟩

set_option maxRecDepth 100000 in
set_option maxHeartbeats 4000000 in
theorem do_flush_still (N : Nat) (conv soft seq size opn : Int) (Q : Nat → Prop) (v : KV) (d : Dk) (x : AD) (w : World) (hN : N ≤ 900) (hok : Ok conv soft seq size opn) (hfit : Fit conv seq size opn d.L) (hI : DkIs N conv soft seq size opn Q w v d) (hx : AIn w x) (hk : x.k % 9 = 6) (hdn : d.down = false) (har : d.armed = false) :
    Calls Try.prog 9 #[.agg (kcs v).toArray, .agg (acs x).toArray] w fun e w' => ∃ v' er, e = .returned (.tuple #[.agg (kcs v').toArray, .int .i64 er]) ∧ DkIs (N + 1) conv soft seq size opn (fun k => Q k ∨ w.heap.size ≤ k) w' v' ((flushK d).1) ∧ Below w.heap.size w w' := by
  obtain ⟨Az, nz, cz, Ad, nd, cd, As, ns, cs, Ac, nc, cc, rfl, ⟨hzl, hzn⟩, ⟨hdl, hdle⟩, hsl, hcl, hsum, hi0, hi1⟩ := hI.form
  rw [hdn] at hI ⊢
  rw [har] at hI ⊢
  obtain ⟨mk, hmk, hszk⟩ := big_size (P := Try.prog) (t := 36) (s := 13) (by kernel_rfl)
  have hmk0 : ¬ mk = 0 := by omega
  have HMK := Lib.hid hmk
  have HP := Lib.hid hx.p
  have HX := Lib.hid hx
  have HI := Lib.hid hI
  have HO := Lib.hid (And.intro hok hfit)
  have HB := Lib.hid (And.intro (And.intro hzl hzn) (And.intro (And.intro hdl hdle) (And.intro hsl (And.intro hcl (And.intro hsum (And.intro hi0 (And.intro hi1 hN)))))))
  have hk0 := hx.k0
  have hk1 := hx.k1
  have hi2 : d.ill ≤ 900 := by omega
  clear hmk hx hI hok hfit hzl hzn hdl hdle hsl hcl hsum hi1
  have hdn0 := Lib.hid hdn
  have har0 := Lib.hid har
  go_enter Try.func9, Try.ntmps9
  go_wp2_with (first
    | ((with_reducible refine wpList_kd_box (o := ⟨some 2, .box _ _, _, _, _, _⟩) rfl _ rfl (KV.mk conv soft seq size opn (.slice Az nz cz) (.slice Ad nd cd) (.slice As ns cs) (.slice Ac nc cc) (false) (d.left) (false) (d.ill)) rfl ?_); intro w1 x0 hB1 hs1)
    | ((with_reducible refine wpList_act_box (o := ⟨some 3, .box _ _, _, _, _, _⟩) rfl _ rfl x rfl ?_); intro w2 x1 hB2 hs2)
    | ((with_reducible refine wpList_kd_alloc (o := ⟨some 4, .alloc _, _, _, _, _⟩) rfl rfl ?_); intro w3 x2 hB3 hs3; have L := DoX.start (M := 4000) HI.out (by have := HB.out.2.2.2.2.2.2; omega) x0 hB1 hs1 x1 hB2 hs2 x2 hB3 hs3; rw [hs2, hs1]; clear hs1 hs2 hs3 x0 x1 x2 hB1 hB2 hB3; obtain ⟨a0, a1, a2, a67, _, _, _⟩ := L.ax.act HP.out; obtain ⟨e0, e1, e2, e3, e4⟩ := L.kx.kd; obtain ⟨k5, k6, k7, k8⟩ := L.kx.kdv; obtain ⟨k9, k10, k11, k12⟩ := L.kx.kdn; have hld := big_load0 Try.prog w.heap.size 0 (kcs (KV.mk conv soft seq size opn (.slice Az nz cz) (.slice Ad nd cd) (.slice As ns cs) (.slice Ac nc cc) (false) (d.left) (false) (d.ill))) mk (by rw [HMK.out]; rfl) w3 L.kx.range0; try dsimp only at e0 e1 e2 e3 e4 k5 k6 k7 k8 k9 k10 k11 k12; have HL := Lib.hid L; clear L)
    | ((with_reducible refine wpList_box_slice (o := ⟨none, .store _ _ _, _, _, _, _⟩) rfl _ _ _ rfl w.heap.size 5 _ _ Az _ cz _ rfl rfl HL.out.kx (kc5 _) size_rzones ?_); intro w39 hw39; have L39 := HL.out.put 5 (.slice Az nz cz) (KV.mk conv soft seq size opn (.slice Az nz cz) (.slice Ad nd cd) (.slice As ns cs) (.slice Ac nc cc) (false) (d.left) (false) (d.ill)) d rfl ⟨HL.out.is.fg, HL.out.is.fz, HL.out.is.fd, HL.out.is.fs, HL.out.is.fc, HL.out.is.fsum, ⟨HL.out.is.fnum.1, HL.out.is.fnum.2.1, HL.out.is.fnum.2.2.1, HL.out.is.fnum.2.2.2.1, HL.out.is.fnum.2.2.2.2.1, HL.out.is.fnum.2.2.2.2.2⟩⟩; rw [← hw39] at L39; clear hw39 a0 a1 a2 a67 e0 e1 e2 e3 e4 k5 k6 k7 k8 k9 k10 k11 k12 hld; obtain ⟨a0, a1, a2, a67, _, _, _⟩ := L39.ax.act HP.out; obtain ⟨e0, e1, e2, e3, e4⟩ := L39.kx.kd; obtain ⟨k5, k6, k7, k8⟩ := L39.kx.kdv; obtain ⟨k9, k10, k11, k12⟩ := L39.kx.kdn; have hld := big_load0 Try.prog w.heap.size 0 (kcs (KV.mk conv soft seq size opn (.slice Az nz cz) (.slice Ad nd cd) (.slice As ns cs) (.slice Ac nc cc) (false) (d.left) (false) (d.ill))) mk (by rw [HMK.out]; rfl) w39 L39.kx.range0; try dsimp only at e0 e1 e2 e3 e4 k5 k6 k7 k8 k9 k10 k11 k12; have HL39 := Lib.hid L39; clear L39)
    | fail)
  refine (dcat_any As Ac ns cs nc cc d.safe d.cached w39 HB.out.2.2.1 HB.out.2.2.2.1 (by have := HB.out.2.2; omega) (by have := HB.out.2.2; omega) (HL39.out.is.srow rfl).2.1 (HL39.out.is.crow rfl).2.1 (HL39.out.is.srow rfl).2.2.row (HL39.out.is.crow rfl).2.2.row).mono ?_
  rintro e w5 ⟨V, rfl, hown, hb⟩
  obtain ⟨A2, c2, hV⟩ := own_slice hown
  subst hV
  obtain ⟨n2, hn2⟩ : ∃ n, (d.safe ++ d.cached).length = n := ⟨_, rfl⟩
  rw [hn2] at hown ⊢
  have HW2 := Lib.hid (And.intro (wok_append (HL39.out.is.srow rfl).2.1 (HL39.out.is.crow rfl).2.1) (RowQ.own hown (VV.far (Q := Q) HL39.out.sz)))
  have HLn := Lib.hid (show (d.safe ++ d.cached).length = n2 ∧ n2 ≤ 1800 by refine ⟨hn2, ?_⟩; rw [← hn2]; simp only [List.length_append]; have := HB.out.2.2; omega)
  clear hn2
  have L5 := HL39.out.on hb
  clear hown hb a0 a1 a2 a67 e0 e1 e2 e3 e4 k5 k6 k7 k8 k9 k10 k11 k12 hld
  obtain ⟨a0, a1, a2, a67, _, _, _⟩ := L5.ax.act HP.out; obtain ⟨e0, e1, e2, e3, e4⟩ := L5.kx.kd; obtain ⟨k5, k6, k7, k8⟩ := L5.kx.kdv; obtain ⟨k9, k10, k11, k12⟩ := L5.kx.kdn; have hld := big_load0 Try.prog w.heap.size 0 (kcs (KV.mk conv soft seq size opn (.slice Az nz cz) (.slice Ad nd cd) (.slice As ns cs) (.slice Ac nc cc) (false) (d.left) (false) (d.ill))) mk (by rw [HMK.out]; rfl) w5 L5.kx.range0; try dsimp only at e0 e1 e2 e3 e4 k5 k6 k7 k8 k9 k10 k11 k12
  have HL5 := Lib.hid L5
  clear L5
  have hkok : KOk (KV.mk conv soft seq size opn (.slice Az nz cz) (.slice Ad nd cd) (.slice A2 n2 c2) (.slice none 0 0) (false) (d.left) (false) (d.ill)) := ⟨rfl, rfl, rfl, rfl⟩
  go_wp2_with (first
    | ((with_reducible refine wpList_box_slice (o := ⟨none, .store _ _ _, _, _, _, _⟩) rfl _ _ _ rfl w.heap.size 7 _ _ A2 _ c2 _ rfl rfl HL5.out.kx (kc7 _) size_rcells ?_); intro w40 hw40; have L40 := HL5.out.put 7 (.slice A2 n2 c2) (KV.mk conv soft seq size opn (.slice Az nz cz) (.slice Ad nd cd) (.slice A2 n2 c2) (.slice Ac nc cc) (false) (d.left) (false) (d.ill)) { d with safe := d.safe ++ d.cached } rfl ⟨HL5.out.is.fg, HL5.out.is.fz, HL5.out.is.fd, ⟨A2, n2, c2, rfl, HLn.out.1, HW2.out.1, HW2.out.2.on0 (Below.refl _ _)⟩, HL5.out.is.fc, (by have h1 := HLn.out; have h2 := HB.out.2.2; dsimp only; omega), ⟨HL5.out.is.fnum.1, HL5.out.is.fnum.2.1, HL5.out.is.fnum.2.2.1, HL5.out.is.fnum.2.2.2.1, HL5.out.is.fnum.2.2.2.2.1, HL5.out.is.fnum.2.2.2.2.2⟩⟩; rw [← hw40] at L40; clear hw40 a0 a1 a2 a67 e0 e1 e2 e3 e4 k5 k6 k7 k8 k9 k10 k11 k12 hld; obtain ⟨a0, a1, a2, a67, _, _, _⟩ := L40.ax.act HP.out; obtain ⟨e0, e1, e2, e3, e4⟩ := L40.kx.kd; obtain ⟨k5, k6, k7, k8⟩ := L40.kx.kdv; obtain ⟨k9, k10, k11, k12⟩ := L40.kx.kdn; have hld := big_load0 Try.prog w.heap.size 0 (kcs (KV.mk conv soft seq size opn (.slice Az nz cz) (.slice Ad nd cd) (.slice A2 n2 c2) (.slice Ac nc cc) (false) (d.left) (false) (d.ill))) mk (by rw [HMK.out]; rfl) w40 L40.kx.range0; try dsimp only at e0 e1 e2 e3 e4 k5 k6 k7 k8 k9 k10 k11 k12; have HL40 := Lib.hid L40; clear L40)
    | ((with_reducible refine wpList_box_slice (o := ⟨none, .store _ _ _, _, _, _, _⟩) rfl _ _ _ rfl w.heap.size 8 _ _ none _ 0 _ rfl rfl HL40.out.kx (kc8 _) size_rcells ?_); intro w41 hw41; have L41 := HL40.out.put 8 (.slice none 0 0) (KV.mk conv soft seq size opn (.slice Az nz cz) (.slice Ad nd cd) (.slice A2 n2 c2) (.slice none 0 0) (false) (d.left) (false) (d.ill)) { d with safe := d.safe ++ d.cached, cached := [] } rfl ⟨HL40.out.is.fg, HL40.out.is.fz, HL40.out.is.fd, HL40.out.is.fs, ⟨none, 0, 0, rfl, rfl, fun c h => (by simp at h), RowQ.empty⟩, (by have h1 := HLn.out; dsimp only; simp only [List.length_nil]; omega), ⟨HL40.out.is.fnum.1, HL40.out.is.fnum.2.1, HL40.out.is.fnum.2.2.1, HL40.out.is.fnum.2.2.2.1, HL40.out.is.fnum.2.2.2.2.1, HL40.out.is.fnum.2.2.2.2.2⟩⟩; rw [← hw41] at L41; clear hw41 a0 a1 a2 a67 e0 e1 e2 e3 e4 k5 k6 k7 k8 k9 k10 k11 k12 hld; obtain ⟨a0, a1, a2, a67, _, _, _⟩ := L41.ax.act HP.out; obtain ⟨e0, e1, e2, e3, e4⟩ := L41.kx.kd; obtain ⟨k5, k6, k7, k8⟩ := L41.kx.kdv; obtain ⟨k9, k10, k11, k12⟩ := L41.kx.kdn; have hld := big_load0 Try.prog w.heap.size 0 (kcs (KV.mk conv soft seq size opn (.slice Az nz cz) (.slice Ad nd cd) (.slice A2 n2 c2) (.slice none 0 0) (false) (d.left) (false) (d.ill))) mk (by rw [HMK.out]; rfl) w41 L41.kx.range0; try dsimp only at e0 e1 e2 e3 e4 k5 k6 k7 k8 k9 k10 k11 k12; have HL41 := Lib.hid L41; clear L41)
    | ((refine wpList_kd_store (o := ⟨none, .store _ _ _, _, _, _, _⟩) rfl _ _ rfl (w.heap.size + 1 + 1) (KV.mk conv soft seq size opn (.slice Az nz cz) (.slice Ad nd cd) (.slice A2 n2 c2) (.slice none 0 0) (false) (d.left) (false) (d.ill)) kd0 hkok rfl rfl HL41.out.rx ?_); intro w9 hb9 hg9 hs9; clear hs9)
    | fail)
  have hldF := big_load0 Try.prog (w.heap.size + 1 + 1) 0 (kcs (KV.mk conv soft seq size opn (.slice Az nz cz) (.slice Ad nd cd) (.slice A2 n2 c2) (.slice none 0 0) (false) (d.left) (false) (d.ill))) mk (by rw [HMK.out]; rfl) _ hb9.range0
  have HE := Lib.hid (HL41.out.done (M := N + 1) hg9 (by have h1 := HB.out.2.1; (try dsimp only); omega) (by have h1 := HB.out.2.2; (try dsimp only); simp only [List.length_append, List.length_nil]; omega) (by have h1 := HB.out.2.2; (try dsimp only); omega))
  have hfin : DkIs (N + 1) conv soft seq size opn (fun k => Q k ∨ w.heap.size ≤ k) w9 (KV.mk conv soft seq size opn (.slice Az nz cz) (.slice Ad nd cd) (.slice A2 n2 c2) (.slice none 0 0) (false) (d.left) (false) (d.ill)) ((flushK d).1) := by rw [show (flushK d).1 = { d with safe := d.safe ++ d.cached, cached := [] } by simp [flushK, tickK, hdn0.out, har0.out]]; exact HE.out.1
  generalize hR : kcs (KV.mk conv soft seq size opn (.slice Az nz cz) (.slice Ad nd cd) (.slice A2 n2 c2) (.slice none 0 0) (false) (d.left) (false) (d.ill)) = R at hldF ⊢
  refine bodyPost_ret (v := .tuple #[.agg R.toArray, .int .i64 0]) (by simp [results, Try.results9, go_sem, hszk, hldF]) rfl ?_
  first
    | exact ⟨(KV.mk conv soft seq size opn (.slice Az nz cz) (.slice Ad nd cd) (.slice A2 n2 c2) (.slice none 0 0) (false) (d.left) (false) (d.ill)), 0, by rw [hR], hfin, HE.out.2⟩
    | exact ⟨(KV.mk conv soft seq size opn (.slice Az nz cz) (.slice Ad nd cd) (.slice A2 n2 c2) (.slice none 0 0) (false) (d.left) (false) (d.ill)), ⟨0, by rw [hR]⟩, hfin, HE.out.2⟩
end Go.Proofs.Ytkdhibjmfanhcaa

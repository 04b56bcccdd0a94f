/-
  DfP
-/
import Derived.Test.YtkdhibjmfanhcaaMg45
/-
  The document's answers for layer 5: Do, way by way.
-/
namespace Go.Proofs.Ytkdhibjmfanhcaa
open Go.RowKit Geom Zone Dev
set_option linter.unusedVariables false

set_option maxRecDepth 100000 in
set_option maxHeartbeats 400000000 in
theorem do_finish_still (N : Nat) (conv soft seq size opn : Int) (Q : Nat → Prop) (v : KV) (d : Dk) (x : AD) (w : World) (hN : N ≤ 900) (hok : Ok conv soft seq size opn) (hfit : Fit conv seq size opn d.L) (hI : DkIs N conv soft seq size opn Q w v d) (hx : AIn w x) (hk : x.k % 9 = 5) (hdn : d.down = false) (hwhy : (act conv soft seq size opn d.L 3 x.a.1 x.a.2).2 = 0) (har : d.armed = false) :
    Calls Try.prog 9 #[.agg (kcs v).toArray, .agg (acs x).toArray] w fun e w' => ∃ v' er, e = .returned (.tuple #[.agg (kcs v').toArray, .int .i64 er]) ∧ DkIs (N + 1) conv soft seq size opn (fun k => Q k ∨ w.heap.size ≤ k) w' v' ((finishK conv soft seq size opn d x.a).1) ∧ Below w.heap.size w w' := by
  obtain ⟨Az, nz, cz, Ad, nd, cd, As, ns, cs, Ac, nc, cc, rfl, ⟨hzl, hzn⟩, ⟨hdl, hdle⟩, hsl, hcl, hsum, hi0, hi1⟩ := hI.form
  rw [hdn] at hI ⊢
  rw [har] at hI ⊢
  obtain ⟨mk, hmk, hszk⟩ := big_size (P := Try.prog) (t := 36) (s := 13) (by kernel_rfl)
  have hmk0 : ¬ mk = 0 := by omega
  have HMK := Lib.hid hmk
  have HP := Lib.hid hx.p
  have HX := Lib.hid hx
  have HI := Lib.hid hI
  have HO := Lib.hid (And.intro hok hfit)
  have HB := Lib.hid (And.intro (And.intro hzl hzn) (And.intro (And.intro hdl hdle) (And.intro hsl (And.intro hcl (And.intro hsum (And.intro hi0 (And.intro hi1 hN)))))))
  have hk0 := hx.k0
  have hk1 := hx.k1
  have hi2 : d.ill ≤ 900 := by omega
  clear hmk hx hI hok hfit hzl hzn hdl hdle hsl hcl hsum hi1
  have hdn0 := Lib.hid hdn
  have har0 := Lib.hid har
  go_enter Try.func9, Try.ntmps9
  go_wp2_with (first
    | ((with_reducible refine wpList_kd_box (o := ⟨some 2, .box _ _, _, _, _, _⟩) rfl _ rfl (KV.mk conv soft seq size opn (.slice Az nz cz) (.slice Ad nd cd) (.slice As ns cs) (.slice Ac nc cc) (false) (d.left) (false) (d.ill)) rfl ?_); intro w1 x0 hB1 hs1)
    | ((with_reducible refine wpList_act_box (o := ⟨some 3, .box _ _, _, _, _, _⟩) rfl _ rfl x rfl ?_); intro w2 x1 hB2 hs2)
    | ((with_reducible refine wpList_kd_alloc (o := ⟨some 4, .alloc _, _, _, _, _⟩) rfl rfl ?_); intro w3 x2 hB3 hs3; have L := DoX.start (M := 4000) HI.out (by have := HB.out.2.2.2.2.2.2; omega) x0 hB1 hs1 x1 hB2 hs2 x2 hB3 hs3; rw [hs2, hs1]; clear hs1 hs2 hs3 x0 x1 x2 hB1 hB2 hB3; obtain ⟨a0, a1, a2, a67, _, _, _⟩ := L.ax.act HP.out; obtain ⟨e0, e1, e2, e3, e4⟩ := L.kx.kd; obtain ⟨k5, k6, k7, k8⟩ := L.kx.kdv; obtain ⟨k9, k10, k11, k12⟩ := L.kx.kdn; have hld := big_load0 Try.prog w.heap.size 0 (kcs (KV.mk conv soft seq size opn (.slice Az nz cz) (.slice Ad nd cd) (.slice As ns cs) (.slice Ac nc cc) (false) (d.left) (false) (d.ill))) mk (by rw [HMK.out]; rfl) w3 L.kx.range0; try dsimp only at e0 e1 e2 e3 e4 k5 k6 k7 k8 k9 k10 k11 k12; have HL := Lib.hid L; clear L)
    | fail)
  refine (ract_any conv soft seq size opn x.a.1 x.a.2 Az nz cz d.L w3 (by have h1 := HB.out.1.2; have h2 := HO.out.1.2.2.1; omega) HB.out.1.1 HO.out.1 HO.out.2 (HL.out.is.zrow rfl).2.2.rd 3 (by omega)).mono ?_
  rintro e w4 ⟨A1, c1, rfl, hr1, hb4, hpv⟩
  have HA := Lib.hid (And.intro (act_length conv soft seq size opn d.L 3 x.a.1 x.a.2) ((HL.out.is.zrow rfl).2.2.gives (zc_ne (by rw [HB.out.1.1]; have h1 := HB.out.1.2; have h2 := HO.out.1.1; have h3 := HO.out.1.2.1; omega)) hr1 hpv (VV.far (Q := Q) HL.out.sz)))
  have L4 := HL.out.on hb4
  clear hr1 hb4 hpv a0 a1 a2 a67 e0 e1 e2 e3 e4 k5 k6 k7 k8 k9 k10 k11 k12 hld
  generalize hact : act conv soft seq size opn d.L 3 x.a.1 x.a.2 = r at *
  have HC := Lib.hid hact
  clear hact
  obtain ⟨L1, why⟩ := r
  dsimp only at HA HC ⊢
  obtain ⟨a0, a1, a2, a67, _, _, _⟩ := L4.ax.act HP.out; obtain ⟨e0, e1, e2, e3, e4⟩ := L4.kx.kd; obtain ⟨k5, k6, k7, k8⟩ := L4.kx.kdv; obtain ⟨k9, k10, k11, k12⟩ := L4.kx.kdn; have hld := big_load0 Try.prog w.heap.size 0 (kcs (KV.mk conv soft seq size opn (.slice Az nz cz) (.slice Ad nd cd) (.slice As ns cs) (.slice Ac nc cc) (false) (d.left) (false) (d.ill))) mk (by rw [HMK.out]; rfl) w4 L4.kx.range0; try dsimp only at e0 e1 e2 e3 e4 k5 k6 k7 k8 k9 k10 k11 k12
  have HL4 := Lib.hid L4
  clear L4
  subst hwhy
  go_wp2_with (first
    | ((with_reducible refine wpList_box_slice (o := ⟨none, .store _ _ _, _, _, _, _⟩) rfl _ _ _ rfl w.heap.size 5 _ _ A1 _ c1 _ rfl rfl HL4.out.kx (kc5 _) size_rzones ?_); intro w72 hw72; have L72 := HL4.out.put 5 (.slice A1 nz c1) (KV.mk conv soft seq size opn (.slice A1 nz c1) (.slice Ad nd cd) (.slice As ns cs) (.slice Ac nc cc) (false) (d.left) (false) (d.ill)) { d with L := L1 } rfl ⟨HL4.out.is.fg, ⟨A1, nz, c1, rfl, HA.out.1.trans HB.out.1.1, HB.out.1.2, HA.out.2⟩, HL4.out.is.fd, HL4.out.is.fs, HL4.out.is.fc, HL4.out.is.fsum, ⟨HL4.out.is.fnum.1, HL4.out.is.fnum.2.1, HL4.out.is.fnum.2.2.1, HL4.out.is.fnum.2.2.2.1, HL4.out.is.fnum.2.2.2.2.1, HL4.out.is.fnum.2.2.2.2.2⟩⟩; rw [← hw72] at L72; clear hw72 a0 a1 a2 a67 e0 e1 e2 e3 e4 k5 k6 k7 k8 k9 k10 k11 k12 hld; obtain ⟨a0, a1, a2, a67, _, _, _⟩ := L72.ax.act HP.out; obtain ⟨e0, e1, e2, e3, e4⟩ := L72.kx.kd; obtain ⟨k5, k6, k7, k8⟩ := L72.kx.kdv; obtain ⟨k9, k10, k11, k12⟩ := L72.kx.kdn; have hld := big_load0 Try.prog w.heap.size 0 (kcs (KV.mk conv soft seq size opn (.slice A1 nz c1) (.slice Ad nd cd) (.slice As ns cs) (.slice Ac nc cc) (false) (d.left) (false) (d.ill))) mk (by rw [HMK.out]; rfl) w72 L72.kx.range0; try dsimp only at e0 e1 e2 e3 e4 k5 k6 k7 k8 k9 k10 k11 k12; have HL72 := Lib.hid L72; clear L72)
    | fail)
  clear a0 a1 a2 a67 e0 e1 e2 e3 e4 k5 k6 k7 k8 k9 k10 k11 k12 hld
  have HLd := Lib.hid (HL72.out.on (Below.refl _ _).drew)
  have SO := Lib.hid fun (w' : World) (h : DoX 4000 conv soft seq size opn Q w w' x (KV.mk conv soft seq size opn (.slice A1 nz c1) (.slice Ad nd cd) (.slice As ns cs) (.slice Ac nc cc) (false) (d.left) (false) (d.ill)) { d with L := L1 }) => (show w'.cell? ⟨w.heap.size, 8, none⟩ = some (.slice Ac nc cc) from h.kx.kdv.2.2.2)
  refine wp_region_held_drew (S := fun w' => w'.cell? ⟨w.heap.size, 8, none⟩ = some (.slice Ac nc cc)) (by kernel_rfl) ?_ (fun hHeld => ?_)
  · exact SO.out _ HLd.out
  refine wpAnyH_take (i := 0) (v := ?v0) rfl (by kernel_rfl) (by kernel_rfl) (by kernel_rfl) (fun _ _ _ h => h) (Or.inl ⟨by rfl, ?hy0⟩) (by assumption) ?rest0
  case hy0 =>
    intro w hSw
    try dsimp only at hSw
    go_simp
    try with_reducible rfl
  try simp only [Act.put]
  refine wpAnyH_take (i := 2) (v := ?v2) rfl (by kernel_rfl) (by kernel_rfl) (by kernel_rfl) (fun _ _ _ h => h) (Or.inl ⟨by rfl, ?hy2⟩) (by assumption) ?rest2
  case hy2 =>
    intro w hSw
    try dsimp only at hSw
    go_simp
    try with_reducible rfl
  try simp only [Act.put]
  refine wpAnyH_take (i := 3) (v := ?v3) rfl (by kernel_rfl) (by kernel_rfl) (by kernel_rfl) (fun _ _ _ h => h) (Or.inl ⟨by rfl, ?hy3⟩) (by assumption) ?rest3
  case hy3 =>
    intro w hSw
    try dsimp only at hSw
    go_simp
    try with_reducible rfl
  try simp only [Act.put]
  refine wpAnyH_take (i := 4) (v := ?v4) rfl (by kernel_rfl) (by kernel_rfl) (by kernel_rfl) (fun _ _ _ h => h) (Or.inl ⟨by rfl, ?hy4⟩) (by assumption) ?rest4
  case hy4 =>
    intro w hSw
    try dsimp only at hSw
    go_simp
    try with_reducible rfl
  try simp only [Act.put]
  
  refine wpAnyH_ready (rs := [1, 5]) (by kernel_rfl) (by simp) ?_
  refine AllReadyH.cons (o := ⟨some 134, .load _ _, _, _, _, _⟩) rfl (fun K hK => ?_) (AllReadyH.cons (o := ⟨some 138, .call _, _, _, _, _⟩) rfl (fun K hK => ?_) AllReadyH.nil)
  · have k7 := HLd.out.kx.kdv.2.2.1
    try dsimp only at k7
    go_simp
    refine hK.out _ _ (SO.out _ HLd.out) (fun hHeld => ?_)
    clear hK K
    try simp only [Act.put]
    refine wpAnyH_ready (rs := [5]) (by kernel_rfl) (by simp) ?_
    refine AllReadyH.cons (o := ⟨some 138, .call _, _, _, _, _⟩) rfl (fun K hK => ?_) AllReadyH.nil
    clear k7
    go_simp
    refine (donly_any Ac nc cc d.cached x.a.1 _ HB.out.2.2.2.1 (by have := HB.out.2.2; omega) (HLd.out.is.crow rfl).2.1 (HLd.out.is.crow rfl).2.2.row).mono ?_
    rintro e w6 ⟨V, rfl, hown, hb⟩
    obtain ⟨A2, c2, hV⟩ := own_slice hown
    subst hV
    obtain ⟨n2, hn2⟩ : ∃ n, (onlyK d.cached x.a.1).length = n := ⟨_, rfl⟩
    rw [hn2] at hown ⊢
    have HR2 := Lib.hid (RowQ.own (A := A2) (xs := wcs (onlyK d.cached x.a.1)) hown (VV.far (Q := Q) HLd.out.sz))
    have HN2 := Lib.hid hn2
    have Lw6 := HLd.out.on hb
    clear hown hb hn2 
    obtain ⟨a0, a1, a2, a67, _, _, _⟩ := Lw6.ax.act HP.out; obtain ⟨e0, e1, e2, e3, e4⟩ := Lw6.kx.kd; obtain ⟨k5, k6, k7, k8⟩ := Lw6.kx.kdv; obtain ⟨k9, k10, k11, k12⟩ := Lw6.kx.kdn; have hld := big_load0 Try.prog w.heap.size 0 (kcs (KV.mk conv soft seq size opn (.slice A1 nz c1) (.slice Ad nd cd) (.slice As ns cs) (.slice Ac nc cc) (false) (d.left) (false) (d.ill))) mk (by rw [HMK.out]; rfl) w6 Lw6.kx.range0; try dsimp only at e0 e1 e2 e3 e4 k5 k6 k7 k8 k9 k10 k11 k12
    have HLw6 := Lib.hid Lw6
    clear Lw6
    have HK2 := Lib.hid (show n2 ≤ nc by rw [← HN2.out, ← HB.out.2.2.2.1]; exact List.length_filter_le _ _)
    clear a0 a1 a2 a67 e0 e1 e2 e3 e4 k5 k6 k7 k8 k9 k10 k11 k12 hld
    go_wp2_with fail
    refine hK.out _ _ (SO.out _ HLw6.out) (fun hHeld => ?_)
    clear hK K
    try simp only [Act.put]
    refine wpAnyH_ready (rs := [6]) (by kernel_rfl) (by simp) ?_
    refine AllReadyH.cons (o := ⟨some 139, .call _, _, _, _, _⟩) rfl (fun K hK => ?_) AllReadyH.nil
    go_simp
    refine (dcat_any As A2 ns cs n2 c2 d.safe (onlyK d.cached x.a.1) _ HB.out.2.2.1 HN2.out (by have := HB.out.2.2; omega) (by have := HK2.out; have := HB.out.2.2; omega) (HLw6.out.is.srow rfl).2.1 (wok_filter _ (HLw6.out.is.crow rfl).2.1) (HLw6.out.is.srow rfl).2.2.row HR2.out.row).mono ?_
    rintro e w7 ⟨V, rfl, hown, hb⟩
    obtain ⟨A3, c3, hV⟩ := own_slice hown
    subst hV
    obtain ⟨n3, hn3⟩ : ∃ n, (d.safe ++ onlyK d.cached x.a.1).length = n := ⟨_, rfl⟩
    rw [hn3] at hown ⊢
    have HR3 := Lib.hid (RowQ.own (A := A3) (xs := wcs (d.safe ++ onlyK d.cached x.a.1)) hown (VV.far (Q := Q) HLw6.out.sz))
    have HN3 := Lib.hid hn3
    have Lw7 := HLw6.out.on hb
    clear hown hb hn3 
    obtain ⟨a0, a1, a2, a67, _, _, _⟩ := Lw7.ax.act HP.out; obtain ⟨e0, e1, e2, e3, e4⟩ := Lw7.kx.kd; obtain ⟨k5, k6, k7, k8⟩ := Lw7.kx.kdv; obtain ⟨k9, k10, k11, k12⟩ := Lw7.kx.kdn; have hld := big_load0 Try.prog w.heap.size 0 (kcs (KV.mk conv soft seq size opn (.slice A1 nz c1) (.slice Ad nd cd) (.slice As ns cs) (.slice Ac nc cc) (false) (d.left) (false) (d.ill))) mk (by rw [HMK.out]; rfl) w7 Lw7.kx.range0; try dsimp only at e0 e1 e2 e3 e4 k5 k6 k7 k8 k9 k10 k11 k12
    have HLw7 := Lib.hid Lw7
    clear Lw7
    have HK3 := Lib.hid (show n3 = ns + n2 by rw [← HN3.out, List.length_append, HB.out.2.2.1, HN2.out])
    clear a0 a1 a2 a67 e0 e1 e2 e3 e4 k5 k6 k7 k8 k9 k10 k11 k12 hld
    go_wp2_with fail
    refine hK.out _ _ (SO.out _ HLw7.out) (fun hHeld => ?_)
    clear hK K
    try simp only [Act.put]
    refine wpAnyH_take (i := 7) (v := ?v7a) rfl (by kernel_rfl) (by kernel_rfl) (by kernel_rfl) (fun _ _ _ h => h) (Or.inl ⟨by rfl, ?hy7a⟩) (by assumption) ?rest7a
    case hy7a =>
      intro w hSw
      try dsimp only at hSw
      go_simp
      try with_reducible rfl
    try simp only [Act.put]
    refine wpAnyH_ready (rs := [8]) (by kernel_rfl) (by simp) ?_
    refine AllReadyH.cons (o := ⟨none, .store _ _ _, _, _, _, _⟩) rfl (fun K hK => ?_) AllReadyH.nil
    refine step_box_slice rfl _ _ _ rfl w.heap.size 7 _ _ A3 n3 c3 _ (by rfl) (by rfl) HLw7.out.kx (kc7 _) size_rcells ?_
    (intro w73 hw73; have L73 := HLw7.out.put 7 (.slice A3 n3 c3) (KV.mk conv soft seq size opn (.slice A1 nz c1) (.slice Ad nd cd) (.slice A3 n3 c3) (.slice Ac nc cc) (false) (d.left) (false) (d.ill)) { d with L := L1, safe := d.safe ++ onlyK d.cached x.a.1 } rfl ⟨HLw7.out.is.fg, HLw7.out.is.fz, HLw7.out.is.fd, ⟨A3, n3, c3, rfl, HN3.out, wok_append (HLw7.out.is.srow rfl).2.1 (wok_filter _ (HLw7.out.is.crow rfl).2.1), HR3.out⟩, HLw7.out.is.fc, (by have h1 := HN3.out; have h3 := HK3.out; have h4 := HK2.out; have h2 := HB.out.2.2; dsimp only; omega), ⟨HLw7.out.is.fnum.1, HLw7.out.is.fnum.2.1, HLw7.out.is.fnum.2.2.1, HLw7.out.is.fnum.2.2.2.1, HLw7.out.is.fnum.2.2.2.2.1, HLw7.out.is.fnum.2.2.2.2.2⟩⟩; rw [← hw73] at L73; clear hw73; obtain ⟨a0, a1, a2, a67, _, _, _⟩ := L73.ax.act HP.out; obtain ⟨e0, e1, e2, e3, e4⟩ := L73.kx.kd; obtain ⟨k5, k6, k7, k8⟩ := L73.kx.kdv; obtain ⟨k9, k10, k11, k12⟩ := L73.kx.kdn; have hld := big_load0 Try.prog w.heap.size 0 (kcs (KV.mk conv soft seq size opn (.slice A1 nz c1) (.slice Ad nd cd) (.slice A3 n3 c3) (.slice Ac nc cc) (false) (d.left) (false) (d.ill))) mk (by rw [HMK.out]; rfl) w73 L73.kx.range0; try dsimp only at e0 e1 e2 e3 e4 k5 k6 k7 k8 k9 k10 k11 k12; have HL73 := Lib.hid L73; clear L73)
    refine hK.out _ _ HL73.out.kx.kdv.2.2.2 (fun hHeld => ?_)
    clear hK K
    try simp only [Act.put]
    refine wpAnyH_done (by kernel_rfl) ?_ _
    go_wp2_with (first
      | fail)
    refine (dout_any Ac nc cc d.cached x.a.1 w73 HB.out.2.2.2.1 (by have := HB.out.2.2; omega) (HL73.out.is.crow rfl).2.1 (HL73.out.is.crow rfl).2.2.row).mono ?_
    rintro e w8 ⟨V, rfl, hown, hb⟩
    obtain ⟨A4, c4, hV⟩ := own_slice hown
    subst hV
    obtain ⟨n4, hn4⟩ : ∃ n, (outK d.cached x.a.1).length = n := ⟨_, rfl⟩
    rw [hn4] at hown ⊢
    have HR4 := Lib.hid (RowQ.own (A := A4) (xs := wcs (outK d.cached x.a.1)) hown (VV.far (Q := Q) HL73.out.sz))
    have HN4 := Lib.hid hn4
    have Lw8 := HL73.out.on hb
    clear hown hb hn4 a0 a1 a2 a67 e0 e1 e2 e3 e4 k5 k6 k7 k8 k9 k10 k11 k12 hld
    obtain ⟨a0, a1, a2, a67, _, _, _⟩ := Lw8.ax.act HP.out; obtain ⟨e0, e1, e2, e3, e4⟩ := Lw8.kx.kd; obtain ⟨k5, k6, k7, k8⟩ := Lw8.kx.kdv; obtain ⟨k9, k10, k11, k12⟩ := Lw8.kx.kdn; have hld := big_load0 Try.prog w.heap.size 0 (kcs (KV.mk conv soft seq size opn (.slice A1 nz c1) (.slice Ad nd cd) (.slice A3 n3 c3) (.slice Ac nc cc) (false) (d.left) (false) (d.ill))) mk (by rw [HMK.out]; rfl) w8 Lw8.kx.range0; try dsimp only at e0 e1 e2 e3 e4 k5 k6 k7 k8 k9 k10 k11 k12
    have HLw8 := Lib.hid Lw8
    clear Lw8
    have HK4 := Lib.hid (show n4 + n2 = nc by rw [← HN4.out, ← HN2.out, ← HB.out.2.2.2.1]; exact out_only_length _ _)
    go_wp2_with (first
      | ((with_reducible refine wpList_box_slice (o := ⟨none, .store _ _ _, _, _, _, _⟩) rfl _ _ _ rfl w.heap.size 8 _ _ A4 _ c4 _ rfl rfl HLw8.out.kx (kc8 _) size_rcells ?_); intro w74 hw74; have L74 := HLw8.out.put 8 (.slice A4 n4 c4) (KV.mk conv soft seq size opn (.slice A1 nz c1) (.slice Ad nd cd) (.slice A3 n3 c3) (.slice A4 n4 c4) (false) (d.left) (false) (d.ill)) { d with L := L1, safe := d.safe ++ onlyK d.cached x.a.1, cached := outK d.cached x.a.1 } rfl ⟨HLw8.out.is.fg, HLw8.out.is.fz, HLw8.out.is.fd, HLw8.out.is.fs, ⟨A4, n4, c4, rfl, HN4.out, wok_filter _ (HLw8.out.is.crow rfl).2.1, HR4.out⟩, (by have h1 := HN3.out; have h3 := HK3.out; have h4 := HN4.out; have h5 := HK4.out; have h2 := HB.out.2.2; dsimp only; omega), ⟨HLw8.out.is.fnum.1, HLw8.out.is.fnum.2.1, HLw8.out.is.fnum.2.2.1, HLw8.out.is.fnum.2.2.2.1, HLw8.out.is.fnum.2.2.2.2.1, HLw8.out.is.fnum.2.2.2.2.2⟩⟩; rw [← hw74] at L74; clear hw74 a0 a1 a2 a67 e0 e1 e2 e3 e4 k5 k6 k7 k8 k9 k10 k11 k12 hld; obtain ⟨a0, a1, a2, a67, _, _, _⟩ := L74.ax.act HP.out; obtain ⟨e0, e1, e2, e3, e4⟩ := L74.kx.kd; obtain ⟨k5, k6, k7, k8⟩ := L74.kx.kdv; obtain ⟨k9, k10, k11, k12⟩ := L74.kx.kdn; have hld := big_load0 Try.prog w.heap.size 0 (kcs (KV.mk conv soft seq size opn (.slice A1 nz c1) (.slice Ad nd cd) (.slice A3 n3 c3) (.slice A4 n4 c4) (false) (d.left) (false) (d.ill))) mk (by rw [HMK.out]; rfl) w74 L74.kx.range0; try dsimp only at e0 e1 e2 e3 e4 k5 k6 k7 k8 k9 k10 k11 k12; have HL74 := Lib.hid L74; clear L74; have k6a : (w74.alloc (.cells #[] 3)).cell? ⟨w.heap.size, 6, none⟩ = some (.slice Ad nd cd) := (HL74.out.on ((Below.refl _ _).alloc (Nat.le_refl _) (.cells #[] 3 (0, 0)))).kx.kdv.2.1)
      | (at_builtin; refine wpList_append_copy _ rfl _ _ _ rfl 3 _ 1 8 elemI rfl Ad nd cd rfl (ints d.done) (by simp [ints, HB.out.2.1.1]) (HL74.out.is.drow rfl).2.2.rd (fun u hu => by simp only [ints, List.mem_map] at hu; obtain ⟨_, _, rfl⟩ := hu; rfl) (by have := HB.out.2; simp only [maxLen]; omega) (by have := HB.out.2; omega) ?_; intro A5 c5 w21 hown5 hb5; have HB5 := Lib.hid hb5; have hs21 := hb5.size; have L21 := HL74.out.on hb5; clear hb5 k6a a0 a1 a2 a67 e0 e1 e2 e3 e4 k5 k6 k7 k8 k9 k10 k11 k12 hld; obtain ⟨a0, a1, a2, a67, _, _, _⟩ := L21.ax.act HP.out; obtain ⟨e0, e1, e2, e3, e4⟩ := L21.kx.kd; obtain ⟨k5, k6, k7, k8⟩ := L21.kx.kdv; obtain ⟨k9, k10, k11, k12⟩ := L21.kx.kdn; have hld := big_load0 Try.prog w.heap.size 0 (kcs (KV.mk conv soft seq size opn (.slice A1 nz c1) (.slice Ad nd cd) (.slice A3 n3 c3) (.slice A4 n4 c4) (false) (d.left) (false) (d.ill))) mk (by rw [HMK.out]; rfl) w21 L21.kx.range0; try dsimp only at e0 e1 e2 e3 e4 k5 k6 k7 k8 k9 k10 k11 k12; clear L21)
      | (at_builtin; refine wpList_append_one _ rfl _ _ _ rfl w74.heap.size 3 _ 8 elemI (.slice A5 nd c5) nd (ints d.done) rfl (.int .i64 x.a.1) rfl hown5 rfl (by have := HB.out.2; simp only [maxLen]; omega) (by have := HB.out.2; omega) hs21 ?_; intro v6 w22 hown6 hg6; obtain ⟨A6, c6, rfl⟩ := own_slice hown6; have hb22 := HB5.out.grown hg6 hs21 fun g hg => (hown5.lt g hg).1; have L22 := HL74.out.on hb22; have HR6 := Lib.hid (show RdQ (VV Q w) w22 A6 (ints (d.done ++ [x.a.1])) from (by rw [ints_snoc]; exact RdQ.own hown6 (VV.far (Q := Q) HL74.out.sz))); clear hb22 hown6 hg6 hown5 hs21 a0 a1 a2 a67 e0 e1 e2 e3 e4 k5 k6 k7 k8 k9 k10 k11 k12 hld; obtain ⟨a0, a1, a2, a67, _, _, _⟩ := L22.ax.act HP.out; obtain ⟨e0, e1, e2, e3, e4⟩ := L22.kx.kd; obtain ⟨k5, k6, k7, k8⟩ := L22.kx.kdv; obtain ⟨k9, k10, k11, k12⟩ := L22.kx.kdn; have hld := big_load0 Try.prog w.heap.size 0 (kcs (KV.mk conv soft seq size opn (.slice A1 nz c1) (.slice Ad nd cd) (.slice A3 n3 c3) (.slice A4 n4 c4) (false) (d.left) (false) (d.ill))) mk (by rw [HMK.out]; rfl) w22 L22.kx.range0; try dsimp only at e0 e1 e2 e3 e4 k5 k6 k7 k8 k9 k10 k11 k12; have HL22 := Lib.hid L22; clear L22)
      | ((with_reducible refine wpList_box_slice (o := ⟨none, .store _ _ _, _, _, _, _⟩) rfl _ _ _ rfl w.heap.size 6 _ _ A6 _ c6 _ rfl rfl HL22.out.kx (kc6 _) size_rints ?_); intro w75 hw75; have L75 := HL22.out.put 6 (.slice A6 (nd + 1) c6) (KV.mk conv soft seq size opn (.slice A1 nz c1) (.slice A6 (nd + 1) c6) (.slice A3 n3 c3) (.slice A4 n4 c4) (false) (d.left) (false) (d.ill)) { d with L := L1, safe := d.safe ++ onlyK d.cached x.a.1, cached := outK d.cached x.a.1, done := d.done ++ [x.a.1] } rfl ⟨HL22.out.is.fg, HL22.out.is.fz, ⟨A6, nd + 1, c6, rfl, (by have h2 := HB.out.2.1.1; dsimp only; simp only [List.length_append, List.length_singleton]; omega), (by have h2 := HB.out.2; omega), HR6.out⟩, HL22.out.is.fs, HL22.out.is.fc, HL22.out.is.fsum, ⟨HL22.out.is.fnum.1, HL22.out.is.fnum.2.1, HL22.out.is.fnum.2.2.1, HL22.out.is.fnum.2.2.2.1, HL22.out.is.fnum.2.2.2.2.1, HL22.out.is.fnum.2.2.2.2.2⟩⟩; rw [← hw75] at L75; clear hw75 a0 a1 a2 a67 e0 e1 e2 e3 e4 k5 k6 k7 k8 k9 k10 k11 k12 hld; obtain ⟨a0, a1, a2, a67, _, _, _⟩ := L75.ax.act HP.out; obtain ⟨e0, e1, e2, e3, e4⟩ := L75.kx.kd; obtain ⟨k5, k6, k7, k8⟩ := L75.kx.kdv; obtain ⟨k9, k10, k11, k12⟩ := L75.kx.kdn; have hld := big_load0 Try.prog w.heap.size 0 (kcs (KV.mk conv soft seq size opn (.slice A1 nz c1) (.slice A6 (nd + 1) c6) (.slice A3 n3 c3) (.slice A4 n4 c4) (false) (d.left) (false) (d.ill))) mk (by rw [HMK.out]; rfl) w75 L75.kx.range0; try dsimp only at e0 e1 e2 e3 e4 k5 k6 k7 k8 k9 k10 k11 k12; have HL75 := Lib.hid L75; clear L75; have hkok : KOk (KV.mk conv soft seq size opn (.slice A1 nz c1) (.slice A6 (nd + 1) c6) (.slice A3 n3 c3) (.slice A4 n4 c4) (false) (d.left) (false) (d.ill)) := ⟨rfl, rfl, rfl, rfl⟩)
      | ((refine wpList_kd_store (o := ⟨none, .store _ _ _, _, _, _, _⟩) rfl _ _ rfl (w.heap.size + 1 + 1) (KV.mk conv soft seq size opn (.slice A1 nz c1) (.slice A6 (nd + 1) c6) (.slice A3 n3 c3) (.slice A4 n4 c4) (false) (d.left) (false) (d.ill)) kd0 hkok rfl rfl HL75.out.rx ?_); intro w9 hb9 hg9 hs9; clear hs9)
      | fail)
    have hldF := big_load0 Try.prog (w.heap.size + 1 + 1) 0 (kcs (KV.mk conv soft seq size opn (.slice A1 nz c1) (.slice A6 (nd + 1) c6) (.slice A3 n3 c3) (.slice A4 n4 c4) (false) (d.left) (false) (d.ill))) mk (by rw [HMK.out]; rfl) _ hb9.range0
    have HE := Lib.hid (HL75.out.done (M := N + 1) hg9 (by have h1 := HB.out.2.1; dsimp only; simp only [List.length_append, List.length_singleton]; omega) (by have h1 := HB.out.2.2; have h2 := HN3.out; have h3 := HK3.out; have h4 := HN4.out; have h5 := HK4.out; dsimp only; omega) (by have h1 := HB.out.2.2; (try dsimp only); omega))
    have hfin : DkIs (N + 1) conv soft seq size opn (fun k => Q k ∨ w.heap.size ≤ k) w9 (KV.mk conv soft seq size opn (.slice A1 nz c1) (.slice A6 (nd + 1) c6) (.slice A3 n3 c3) (.slice A4 n4 c4) (false) (d.left) (false) (d.ill)) ((finishK conv soft seq size opn d x.a).1) := by rw [show (finishK conv soft seq size opn d x.a).1 = { d with L := L1, safe := d.safe ++ onlyK d.cached x.a.1, cached := outK d.cached x.a.1, done := d.done ++ [x.a.1] } from (finishK_go hdn0.out HC.out).trans (tickK_no (d := { d with L := L1, safe := d.safe ++ onlyK d.cached x.a.1, cached := outK d.cached x.a.1, done := d.done ++ [x.a.1] }) har0.out)]; exact HE.out.1
    generalize hR : kcs (KV.mk conv soft seq size opn (.slice A1 nz c1) (.slice A6 (nd + 1) c6) (.slice A3 n3 c3) (.slice A4 n4 c4) (false) (d.left) (false) (d.ill)) = R at hldF ⊢
    refine bodyPost_ret (v := .tuple #[.agg R.toArray, .int .i64 0]) (by simp [results, Try.results9, go_sem, hszk, hldF]) rfl ?_
    first
      | exact ⟨(KV.mk conv soft seq size opn (.slice A1 nz c1) (.slice A6 (nd + 1) c6) (.slice A3 n3 c3) (.slice A4 n4 c4) (false) (d.left) (false) (d.ill)), 0, by rw [hR], hfin, HE.out.2⟩
      | exact ⟨(KV.mk conv soft seq size opn (.slice A1 nz c1) (.slice A6 (nd + 1) c6) (.slice A3 n3 c3) (.slice A4 n4 c4) (false) (d.left) (false) (d.ill)), ⟨0, by rw [hR]⟩, hfin, HE.out.2⟩
  · go_simp
    refine (donly_any Ac nc cc d.cached x.a.1 _ HB.out.2.2.2.1 (by have := HB.out.2.2; omega) (HLd.out.is.crow rfl).2.1 (HLd.out.is.crow rfl).2.2.row).mono ?_
    rintro e w6 ⟨V, rfl, hown, hb⟩
    obtain ⟨A2, c2, hV⟩ := own_slice hown
    subst hV
    obtain ⟨n2, hn2⟩ : ∃ n, (onlyK d.cached x.a.1).length = n := ⟨_, rfl⟩
    rw [hn2] at hown ⊢
    have HR2 := Lib.hid (RowQ.own (A := A2) (xs := wcs (onlyK d.cached x.a.1)) hown (VV.far (Q := Q) HLd.out.sz))
    have HN2 := Lib.hid hn2
    have Lw6 := HLd.out.on hb
    clear hown hb hn2 
    obtain ⟨a0, a1, a2, a67, _, _, _⟩ := Lw6.ax.act HP.out; obtain ⟨e0, e1, e2, e3, e4⟩ := Lw6.kx.kd; obtain ⟨k5, k6, k7, k8⟩ := Lw6.kx.kdv; obtain ⟨k9, k10, k11, k12⟩ := Lw6.kx.kdn; have hld := big_load0 Try.prog w.heap.size 0 (kcs (KV.mk conv soft seq size opn (.slice A1 nz c1) (.slice Ad nd cd) (.slice As ns cs) (.slice Ac nc cc) (false) (d.left) (false) (d.ill))) mk (by rw [HMK.out]; rfl) w6 Lw6.kx.range0; try dsimp only at e0 e1 e2 e3 e4 k5 k6 k7 k8 k9 k10 k11 k12
    have HLw6 := Lib.hid Lw6
    clear Lw6
    have HK2 := Lib.hid (show n2 ≤ nc by rw [← HN2.out, ← HB.out.2.2.2.1]; exact List.length_filter_le _ _)
    go_wp2_with fail
    refine hK.out _ _ (SO.out _ HLw6.out) (fun hHeld => ?_)
    clear hK K
    try simp only [Act.put]
    refine wpAnyH_ready (rs := [1]) (by kernel_rfl) (by simp) ?_
    refine AllReadyH.cons (o := ⟨some 134, .load _ _, _, _, _, _⟩) rfl (fun K hK => ?_) AllReadyH.nil
    go_simp
    refine hK.out _ _ (SO.out _ HLw6.out) (fun hHeld => ?_)
    clear hK K
    try simp only [Act.put]
    clear a0 a1 a2 a67 e0 e1 e2 e3 e4 k5 k6 k7 k8 k9 k10 k11 k12 hld
    refine wpAnyH_ready (rs := [6]) (by kernel_rfl) (by simp) ?_
    refine AllReadyH.cons (o := ⟨some 139, .call _, _, _, _, _⟩) rfl (fun K hK => ?_) AllReadyH.nil
    go_simp
    refine (dcat_any As A2 ns cs n2 c2 d.safe (onlyK d.cached x.a.1) _ HB.out.2.2.1 HN2.out (by have := HB.out.2.2; omega) (by have := HK2.out; have := HB.out.2.2; omega) (HLw6.out.is.srow rfl).2.1 (wok_filter _ (HLw6.out.is.crow rfl).2.1) (HLw6.out.is.srow rfl).2.2.row HR2.out.row).mono ?_
    rintro e w7 ⟨V, rfl, hown, hb⟩
    obtain ⟨A3, c3, hV⟩ := own_slice hown
    subst hV
    obtain ⟨n3, hn3⟩ : ∃ n, (d.safe ++ onlyK d.cached x.a.1).length = n := ⟨_, rfl⟩
    rw [hn3] at hown ⊢
    have HR3 := Lib.hid (RowQ.own (A := A3) (xs := wcs (d.safe ++ onlyK d.cached x.a.1)) hown (VV.far (Q := Q) HLw6.out.sz))
    have HN3 := Lib.hid hn3
    have Lw7 := HLw6.out.on hb
    clear hown hb hn3 
    obtain ⟨a0, a1, a2, a67, _, _, _⟩ := Lw7.ax.act HP.out; obtain ⟨e0, e1, e2, e3, e4⟩ := Lw7.kx.kd; obtain ⟨k5, k6, k7, k8⟩ := Lw7.kx.kdv; obtain ⟨k9, k10, k11, k12⟩ := Lw7.kx.kdn; have hld := big_load0 Try.prog w.heap.size 0 (kcs (KV.mk conv soft seq size opn (.slice A1 nz c1) (.slice Ad nd cd) (.slice As ns cs) (.slice Ac nc cc) (false) (d.left) (false) (d.ill))) mk (by rw [HMK.out]; rfl) w7 Lw7.kx.range0; try dsimp only at e0 e1 e2 e3 e4 k5 k6 k7 k8 k9 k10 k11 k12
    have HLw7 := Lib.hid Lw7
    clear Lw7
    have HK3 := Lib.hid (show n3 = ns + n2 by rw [← HN3.out, List.length_append, HB.out.2.2.1, HN2.out])
    clear a0 a1 a2 a67 e0 e1 e2 e3 e4 k5 k6 k7 k8 k9 k10 k11 k12 hld
    go_wp2_with fail
    refine hK.out _ _ (SO.out _ HLw7.out) (fun hHeld => ?_)
    clear hK K
    try simp only [Act.put]
    refine wpAnyH_take (i := 7) (v := ?v7b) rfl (by kernel_rfl) (by kernel_rfl) (by kernel_rfl) (fun _ _ _ h => h) (Or.inl ⟨by rfl, ?hy7b⟩) (by assumption) ?rest7b
    case hy7b =>
      intro w hSw
      try dsimp only at hSw
      go_simp
      try with_reducible rfl
    try simp only [Act.put]
    refine wpAnyH_ready (rs := [8]) (by kernel_rfl) (by simp) ?_
    refine AllReadyH.cons (o := ⟨none, .store _ _ _, _, _, _, _⟩) rfl (fun K hK => ?_) AllReadyH.nil
    refine step_box_slice rfl _ _ _ rfl w.heap.size 7 _ _ A3 n3 c3 _ (by rfl) (by rfl) HLw7.out.kx (kc7 _) size_rcells ?_
    (intro w76 hw76; have L76 := HLw7.out.put 7 (.slice A3 n3 c3) (KV.mk conv soft seq size opn (.slice A1 nz c1) (.slice Ad nd cd) (.slice A3 n3 c3) (.slice Ac nc cc) (false) (d.left) (false) (d.ill)) { d with L := L1, safe := d.safe ++ onlyK d.cached x.a.1 } rfl ⟨HLw7.out.is.fg, HLw7.out.is.fz, HLw7.out.is.fd, ⟨A3, n3, c3, rfl, HN3.out, wok_append (HLw7.out.is.srow rfl).2.1 (wok_filter _ (HLw7.out.is.crow rfl).2.1), HR3.out⟩, HLw7.out.is.fc, (by have h1 := HN3.out; have h3 := HK3.out; have h4 := HK2.out; have h2 := HB.out.2.2; dsimp only; omega), ⟨HLw7.out.is.fnum.1, HLw7.out.is.fnum.2.1, HLw7.out.is.fnum.2.2.1, HLw7.out.is.fnum.2.2.2.1, HLw7.out.is.fnum.2.2.2.2.1, HLw7.out.is.fnum.2.2.2.2.2⟩⟩; rw [← hw76] at L76; clear hw76; obtain ⟨a0, a1, a2, a67, _, _, _⟩ := L76.ax.act HP.out; obtain ⟨e0, e1, e2, e3, e4⟩ := L76.kx.kd; obtain ⟨k5, k6, k7, k8⟩ := L76.kx.kdv; obtain ⟨k9, k10, k11, k12⟩ := L76.kx.kdn; have hld := big_load0 Try.prog w.heap.size 0 (kcs (KV.mk conv soft seq size opn (.slice A1 nz c1) (.slice Ad nd cd) (.slice A3 n3 c3) (.slice Ac nc cc) (false) (d.left) (false) (d.ill))) mk (by rw [HMK.out]; rfl) w76 L76.kx.range0; try dsimp only at e0 e1 e2 e3 e4 k5 k6 k7 k8 k9 k10 k11 k12; have HL76 := Lib.hid L76; clear L76)
    refine hK.out _ _ HL76.out.kx.kdv.2.2.2 (fun hHeld => ?_)
    clear hK K
    try simp only [Act.put]
    refine wpAnyH_done (by kernel_rfl) ?_ _
    go_wp2_with (first
      | fail)
    refine (dout_any Ac nc cc d.cached x.a.1 w76 HB.out.2.2.2.1 (by have := HB.out.2.2; omega) (HL76.out.is.crow rfl).2.1 (HL76.out.is.crow rfl).2.2.row).mono ?_
    rintro e w8 ⟨V, rfl, hown, hb⟩
    obtain ⟨A4, c4, hV⟩ := own_slice hown
    subst hV
    obtain ⟨n4, hn4⟩ : ∃ n, (outK d.cached x.a.1).length = n := ⟨_, rfl⟩
    rw [hn4] at hown ⊢
    have HR4 := Lib.hid (RowQ.own (A := A4) (xs := wcs (outK d.cached x.a.1)) hown (VV.far (Q := Q) HL76.out.sz))
    have HN4 := Lib.hid hn4
    have Lw8 := HL76.out.on hb
    clear hown hb hn4 a0 a1 a2 a67 e0 e1 e2 e3 e4 k5 k6 k7 k8 k9 k10 k11 k12 hld
    obtain ⟨a0, a1, a2, a67, _, _, _⟩ := Lw8.ax.act HP.out; obtain ⟨e0, e1, e2, e3, e4⟩ := Lw8.kx.kd; obtain ⟨k5, k6, k7, k8⟩ := Lw8.kx.kdv; obtain ⟨k9, k10, k11, k12⟩ := Lw8.kx.kdn; have hld := big_load0 Try.prog w.heap.size 0 (kcs (KV.mk conv soft seq size opn (.slice A1 nz c1) (.slice Ad nd cd) (.slice A3 n3 c3) (.slice Ac nc cc) (false) (d.left) (false) (d.ill))) mk (by rw [HMK.out]; rfl) w8 Lw8.kx.range0; try dsimp only at e0 e1 e2 e3 e4 k5 k6 k7 k8 k9 k10 k11 k12
    have HLw8 := Lib.hid Lw8
    clear Lw8
    have HK4 := Lib.hid (show n4 + n2 = nc by rw [← HN4.out, ← HN2.out, ← HB.out.2.2.2.1]; exact out_only_length _ _)
    go_wp2_with (first
      | ((with_reducible refine wpList_box_slice (o := ⟨none, .store _ _ _, _, _, _, _⟩) rfl _ _ _ rfl w.heap.size 8 _ _ A4 _ c4 _ rfl rfl HLw8.out.kx (kc8 _) size_rcells ?_); intro w77 hw77; have L77 := HLw8.out.put 8 (.slice A4 n4 c4) (KV.mk conv soft seq size opn (.slice A1 nz c1) (.slice Ad nd cd) (.slice A3 n3 c3) (.slice A4 n4 c4) (false) (d.left) (false) (d.ill)) { d with L := L1, safe := d.safe ++ onlyK d.cached x.a.1, cached := outK d.cached x.a.1 } rfl ⟨HLw8.out.is.fg, HLw8.out.is.fz, HLw8.out.is.fd, HLw8.out.is.fs, ⟨A4, n4, c4, rfl, HN4.out, wok_filter _ (HLw8.out.is.crow rfl).2.1, HR4.out⟩, (by have h1 := HN3.out; have h3 := HK3.out; have h4 := HN4.out; have h5 := HK4.out; have h2 := HB.out.2.2; dsimp only; omega), ⟨HLw8.out.is.fnum.1, HLw8.out.is.fnum.2.1, HLw8.out.is.fnum.2.2.1, HLw8.out.is.fnum.2.2.2.1, HLw8.out.is.fnum.2.2.2.2.1, HLw8.out.is.fnum.2.2.2.2.2⟩⟩; rw [← hw77] at L77; clear hw77 a0 a1 a2 a67 e0 e1 e2 e3 e4 k5 k6 k7 k8 k9 k10 k11 k12 hld; obtain ⟨a0, a1, a2, a67, _, _, _⟩ := L77.ax.act HP.out; obtain ⟨e0, e1, e2, e3, e4⟩ := L77.kx.kd; obtain ⟨k5, k6, k7, k8⟩ := L77.kx.kdv; obtain ⟨k9, k10, k11, k12⟩ := L77.kx.kdn; have hld := big_load0 Try.prog w.heap.size 0 (kcs (KV.mk conv soft seq size opn (.slice A1 nz c1) (.slice Ad nd cd) (.slice A3 n3 c3) (.slice A4 n4 c4) (false) (d.left) (false) (d.ill))) mk (by rw [HMK.out]; rfl) w77 L77.kx.range0; try dsimp only at e0 e1 e2 e3 e4 k5 k6 k7 k8 k9 k10 k11 k12; have HL77 := Lib.hid L77; clear L77; have k6a : (w77.alloc (.cells #[] 3)).cell? ⟨w.heap.size, 6, none⟩ = some (.slice Ad nd cd) := (HL77.out.on ((Below.refl _ _).alloc (Nat.le_refl _) (.cells #[] 3 (0, 0)))).kx.kdv.2.1)
      | (at_builtin; refine wpList_append_copy _ rfl _ _ _ rfl 3 _ 1 8 elemI rfl Ad nd cd rfl (ints d.done) (by simp [ints, HB.out.2.1.1]) (HL77.out.is.drow rfl).2.2.rd (fun u hu => by simp only [ints, List.mem_map] at hu; obtain ⟨_, _, rfl⟩ := hu; rfl) (by have := HB.out.2; simp only [maxLen]; omega) (by have := HB.out.2; omega) ?_; intro A5 c5 w21 hown5 hb5; have HB5 := Lib.hid hb5; have hs21 := hb5.size; have L21 := HL77.out.on hb5; clear hb5 k6a a0 a1 a2 a67 e0 e1 e2 e3 e4 k5 k6 k7 k8 k9 k10 k11 k12 hld; obtain ⟨a0, a1, a2, a67, _, _, _⟩ := L21.ax.act HP.out; obtain ⟨e0, e1, e2, e3, e4⟩ := L21.kx.kd; obtain ⟨k5, k6, k7, k8⟩ := L21.kx.kdv; obtain ⟨k9, k10, k11, k12⟩ := L21.kx.kdn; have hld := big_load0 Try.prog w.heap.size 0 (kcs (KV.mk conv soft seq size opn (.slice A1 nz c1) (.slice Ad nd cd) (.slice A3 n3 c3) (.slice A4 n4 c4) (false) (d.left) (false) (d.ill))) mk (by rw [HMK.out]; rfl) w21 L21.kx.range0; try dsimp only at e0 e1 e2 e3 e4 k5 k6 k7 k8 k9 k10 k11 k12; clear L21)
      | (at_builtin; refine wpList_append_one _ rfl _ _ _ rfl w77.heap.size 3 _ 8 elemI (.slice A5 nd c5) nd (ints d.done) rfl (.int .i64 x.a.1) rfl hown5 rfl (by have := HB.out.2; simp only [maxLen]; omega) (by have := HB.out.2; omega) hs21 ?_; intro v6 w22 hown6 hg6; obtain ⟨A6, c6, rfl⟩ := own_slice hown6; have hb22 := HB5.out.grown hg6 hs21 fun g hg => (hown5.lt g hg).1; have L22 := HL77.out.on hb22; have HR6 := Lib.hid (show RdQ (VV Q w) w22 A6 (ints (d.done ++ [x.a.1])) from (by rw [ints_snoc]; exact RdQ.own hown6 (VV.far (Q := Q) HL77.out.sz))); clear hb22 hown6 hg6 hown5 hs21 a0 a1 a2 a67 e0 e1 e2 e3 e4 k5 k6 k7 k8 k9 k10 k11 k12 hld; obtain ⟨a0, a1, a2, a67, _, _, _⟩ := L22.ax.act HP.out; obtain ⟨e0, e1, e2, e3, e4⟩ := L22.kx.kd; obtain ⟨k5, k6, k7, k8⟩ := L22.kx.kdv; obtain ⟨k9, k10, k11, k12⟩ := L22.kx.kdn; have hld := big_load0 Try.prog w.heap.size 0 (kcs (KV.mk conv soft seq size opn (.slice A1 nz c1) (.slice Ad nd cd) (.slice A3 n3 c3) (.slice A4 n4 c4) (false) (d.left) (false) (d.ill))) mk (by rw [HMK.out]; rfl) w22 L22.kx.range0; try dsimp only at e0 e1 e2 e3 e4 k5 k6 k7 k8 k9 k10 k11 k12; have HL22 := Lib.hid L22; clear L22)
      | ((with_reducible refine wpList_box_slice (o := ⟨none, .store _ _ _, _, _, _, _⟩) rfl _ _ _ rfl w.heap.size 6 _ _ A6 _ c6 _ rfl rfl HL22.out.kx (kc6 _) size_rints ?_); intro w78 hw78; have L78 := HL22.out.put 6 (.slice A6 (nd + 1) c6) (KV.mk conv soft seq size opn (.slice A1 nz c1) (.slice A6 (nd + 1) c6) (.slice A3 n3 c3) (.slice A4 n4 c4) (false) (d.left) (false) (d.ill)) { d with L := L1, safe := d.safe ++ onlyK d.cached x.a.1, cached := outK d.cached x.a.1, done := d.done ++ [x.a.1] } rfl ⟨HL22.out.is.fg, HL22.out.is.fz, ⟨A6, nd + 1, c6, rfl, (by have h2 := HB.out.2.1.1; dsimp only; simp only [List.length_append, List.length_singleton]; omega), (by have h2 := HB.out.2; omega), HR6.out⟩, HL22.out.is.fs, HL22.out.is.fc, HL22.out.is.fsum, ⟨HL22.out.is.fnum.1, HL22.out.is.fnum.2.1, HL22.out.is.fnum.2.2.1, HL22.out.is.fnum.2.2.2.1, HL22.out.is.fnum.2.2.2.2.1, HL22.out.is.fnum.2.2.2.2.2⟩⟩; rw [← hw78] at L78; clear hw78 a0 a1 a2 a67 e0 e1 e2 e3 e4 k5 k6 k7 k8 k9 k10 k11 k12 hld; obtain ⟨a0, a1, a2, a67, _, _, _⟩ := L78.ax.act HP.out; obtain ⟨e0, e1, e2, e3, e4⟩ := L78.kx.kd; obtain ⟨k5, k6, k7, k8⟩ := L78.kx.kdv; obtain ⟨k9, k10, k11, k12⟩ := L78.kx.kdn; have hld := big_load0 Try.prog w.heap.size 0 (kcs (KV.mk conv soft seq size opn (.slice A1 nz c1) (.slice A6 (nd + 1) c6) (.slice A3 n3 c3) (.slice A4 n4 c4) (false) (d.left) (false) (d.ill))) mk (by rw [HMK.out]; rfl) w78 L78.kx.range0; try dsimp only at e0 e1 e2 e3 e4 k5 k6 k7 k8 k9 k10 k11 k12; have HL78 := Lib.hid L78; clear L78; have hkok : KOk (KV.mk conv soft seq size opn (.slice A1 nz c1) (.slice A6 (nd + 1) c6) (.slice A3 n3 c3) (.slice A4 n4 c4) (false) (d.left) (false) (d.ill)) := ⟨rfl, rfl, rfl, rfl⟩)
      | ((refine wpList_kd_store (o := ⟨none, .store _ _ _, _, _, _, _⟩) rfl _ _ rfl (w.heap.size + 1 + 1) (KV.mk conv soft seq size opn (.slice A1 nz c1) (.slice A6 (nd + 1) c6) (.slice A3 n3 c3) (.slice A4 n4 c4) (false) (d.left) (false) (d.ill)) kd0 hkok rfl rfl HL78.out.rx ?_); intro w9 hb9 hg9 hs9; clear hs9)
      | fail)
    have hldF := big_load0 Try.prog (w.heap.size + 1 + 1) 0 (kcs (KV.mk conv soft seq size opn (.slice A1 nz c1) (.slice A6 (nd + 1) c6) (.slice A3 n3 c3) (.slice A4 n4 c4) (false) (d.left) (false) (d.ill))) mk (by rw [HMK.out]; rfl) _ hb9.range0
    have HE := Lib.hid (HL78.out.done (M := N + 1) hg9 (by have h1 := HB.out.2.1; dsimp only; simp only [List.length_append, List.length_singleton]; omega) (by have h1 := HB.out.2.2; have h2 := HN3.out; have h3 := HK3.out; have h4 := HN4.out; have h5 := HK4.out; dsimp only; omega) (by have h1 := HB.out.2.2; (try dsimp only); omega))
    have hfin : DkIs (N + 1) conv soft seq size opn (fun k => Q k ∨ w.heap.size ≤ k) w9 (KV.mk conv soft seq size opn (.slice A1 nz c1) (.slice A6 (nd + 1) c6) (.slice A3 n3 c3) (.slice A4 n4 c4) (false) (d.left) (false) (d.ill)) ((finishK conv soft seq size opn d x.a).1) := by rw [show (finishK conv soft seq size opn d x.a).1 = { d with L := L1, safe := d.safe ++ onlyK d.cached x.a.1, cached := outK d.cached x.a.1, done := d.done ++ [x.a.1] } from (finishK_go hdn0.out HC.out).trans (tickK_no (d := { d with L := L1, safe := d.safe ++ onlyK d.cached x.a.1, cached := outK d.cached x.a.1, done := d.done ++ [x.a.1] }) har0.out)]; exact HE.out.1
    generalize hR : kcs (KV.mk conv soft seq size opn (.slice A1 nz c1) (.slice A6 (nd + 1) c6) (.slice A3 n3 c3) (.slice A4 n4 c4) (false) (d.left) (false) (d.ill)) = R at hldF ⊢
    refine bodyPost_ret (v := .tuple #[.agg R.toArray, .int .i64 0]) (by simp [results, Try.results9, go_sem, hszk, hldF]) rfl ?_
    first
      | exact ⟨(KV.mk conv soft seq size opn (.slice A1 nz c1) (.slice A6 (nd + 1) c6) (.slice A3 n3 c3) (.slice A4 n4 c4) (false) (d.left) (false) (d.ill)), 0, by rw [hR], hfin, HE.out.2⟩
      | exact ⟨(KV.mk conv soft seq size opn (.slice A1 nz c1) (.slice A6 (nd + 1) c6) (.slice A3 n3 c3) (.slice A4 n4 c4) (false) (d.left) (false) (d.ill)), ⟨0, by rw [hR]⟩, hfin, HE.out.2⟩
end Go.Proofs.Ytkdhibjmfanhcaa

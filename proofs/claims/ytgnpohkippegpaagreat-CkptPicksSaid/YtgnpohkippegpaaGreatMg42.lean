/-
  CkU LfL
-/
import Derived.Test.YtgnpohkippegpaaGreatMg41
import Derived.Test.YtgnpohkippegpaaGreatMg28
import Derived.Test.YtgnpohkippegpaaGreatMg25
/-
  'awake' of layer 13 answers true.
-/
namespace Go.Proofs.YtgnpohkippegpaaGreat
open Go.RowKit Geom Zone Dev Ckp Word
set_option linter.unusedVariables false

theorem msr13 : Msr 2 8 6 8 3 4 1 := ⟨by decide, by decide, by decide, by decide, by decide⟩
theorem page_first {D : Dv} {odd : Int} {N : Nat} {L : List (List Int)} (h : regD D odd (N + 1) = L) : some (pageD D (plZ odd, plO odd)) = L[0]? := by
  rw [← h, regD_at (Nat.succ_pos N)]
  simp
set_option maxRecDepth 100000 in
set_option maxHeartbeats 8000000 in
theorem awake13_any (w : World) : Calls Tryz.prog 4 #[] w fun e w' => e = .returned (.bool true) ∧ Below w.heap.size w w' := by
  obtain ⟨m6, hm6, hszp⟩ := big_size (P := Tryz.prog) (t := 43) (s := 64) (by kernel_rfl)
  have hm60 : ¬ m6 = 0 := by omega
  have HM := Lib.hid msr13
  obtain ⟨h11, h12⟩ := head_yes (gen := 1) (epoch := 1) (sq := 0) (P := 1) (by decide) (by decide) (by decide) (by decide)
  obtain ⟨h21, h22⟩ := head_yes (gen := 2) (epoch := 1) (sq := 7) (P := 1) (by decide) (by decide) (by decide) (by decide)
  have HH1 := Lib.hid (And.intro h11 h12)
  have HH2 := Lib.hid (And.intro h21 h22)
  have sd0 := sd_new (k := (2 + 6 : Int).toNat) msr13 (by decide)
  obtain ⟨D1, e1, sd1, _, _, old1, _, _⟩ := turn_core (n := 4) (ys := tabY 4 []) (m := hdM 1 1 0 1) sd0 (by decide) msr13.hP msr13.n4 h11 h12 (tabOk_of (by simp)) (older_new msr13.hP) (by show (0 : Int) < 1; decide)
  obtain ⟨D2, e2, sd2, _, p2, _, q2, _⟩ := turn_core (n := 4) (ys := tabY 4 [5]) (m := hdM 2 1 7 1) sd1 (by decide) msr13.hP msr13.n4 h21 h22 (tabOk_of (by simp)) old1 (by show (1 : Int) < 2; decide)
  have hpn : pickS (newD 2 8 6 8 3 (2 + 6 : Int).toNat) 4 1 = none := pick_none msr13.hP
  have SD0 := Lib.hid sd0
  have SD1 := Lib.hid sd1
  have SD2 := Lib.hid sd2
  have HW1 := Lib.hid e1
  have HW2 := Lib.hid e2
  have HP0 := Lib.hid hpn
  have HP2 := Lib.hid p2
  have HPg : Hid (pageD D2 (1, 0) = Mast.layL (hdM 2 1 7 1)) := Lib.hid (by
    have h := page_first (N := 2) q2
    have e : secs (hdM 2 1 7 1) (tabY 4 [5]) 1 = Mast.layL (hdM 2 1 7 1) :: (lvs (tabY 4 [5]) 2 1 ++ [Mast.layL (footOf (hdM 2 1 7 1) (lvs (tabY 4 [5]) 2 1))]) := rfl
    rw [e] at h
    injection h)
  have HPl := Lib.hid (Mast.layL_length (hdM 2 1 7 1))
  have HPz : Hid ((Mast.layL (hdM 2 1 7 1)).getD 0 0 = 129) := Lib.hid (Mast.layL_zero (hdM 2 1 7 1))
  have HGt : Hid (Tbl.getT 4 (tabY 4 [5]) 0 = 5) := Lib.hid (by decide)
  have hrd := conv_read (z := 1) (o := 0) (cv_of sd2.n.ok) sd2.up (by decide) (by have := sd2.n.ok.ok.1; omega) (by decide) (by have := sd2.so; omega)
  have HRd := Lib.hid hrd
  have HM6 := Lib.hid hm6
  clear sd0 sd1 sd2 e1 e2 hpn p2 q2 old1 h11 h12 h21 h22 hrd hm6
  generalize hD0 : newD 2 8 6 8 3 (2 + 6 : Int).toNat = D0 at *
  have HD0 := Lib.hid hD0
  clear hD0
  generalize Mast.layL (hdM 2 1 7 1) = pl at *
  go_enter Tryz.func4, Tryz.ntmps4
  go_wp2_with (first
    | ((with_reducible refine wpList_ge_alloc (o := ⟨some 1, .alloc _, _, _, _, _⟩) rfl rfl ?_); intro w1 x1 hB1 hs1; clear hs1)
    | ((with_reducible refine wpList_ge_store (o := ⟨none, .store _ (.tmp 1) _, _, _, _, _⟩) rfl _ _ rfl w.heap.size ⟨2, 8, 6, 8, 3⟩ Mast.g0 rfl rfl x1 ?_); go_loud (intro w2 x2 hg2 _; have X2 := Lib.hid (And.intro x2 (below_stored hB1 hg2 hB1.size (Nat.le_refl _))); have c0 := x2.ge.1; have c1 := x2.ge.2.1; have c2 := x2.ge.2.2.1; have c3 := x2.ge.2.2.2.1; have c4 := x2.ge.2.2.2.2; clear x1 hB1 x2 hg2))
    | fail)
  refine (lw_new HM.out (w := w) (X := [w.heap.size]) X2.out.1 X2.out.2 (by have := X2.out.1.lt; simp; omega) (by simp)).mono ?_
  rintro e w3 ⟨d, rfl, hL, _⟩
  rw [HD0.out] at hL
  have L3 := Lib.hid hL
  clear hL c0 c1 c2 c3 c4 X2
  have c0 : w3.cell? ⟨w.heap.size, 0, none⟩ = some (.int .i64 2) := L3.out.ge.cell 0
  have c1 : w3.cell? ⟨w.heap.size, 1, none⟩ = some (.int .i64 8) := L3.out.ge.cell 1
  have c2 : w3.cell? ⟨w.heap.size, 2, none⟩ = some (.int .i64 6) := L3.out.ge.cell 2
  have c3 : w3.cell? ⟨w.heap.size, 3, none⟩ = some (.int .i64 8) := L3.out.ge.cell 3
  have c4 : w3.cell? ⟨w.heap.size, 4, none⟩ = some (.int .i64 3) := L3.out.ge.cell 4
  go_wp2_with fail
  refine (lw_pick HM.out L3.out SD0.out.n.ok SD0.out.od SD0.out.up SD0.out.so).mono ?_
  rw [HP0.out]
  rintro e w4 ⟨hp, hF⟩
  unfold LwPk at hp
  obtain ⟨rfl, hL⟩ := hp
  have L4 := Lib.hid hL
  clear hL hF c0 c1 c2 c3 c4 L3
  go_wp2_with (first
    | ((with_reducible refine wpList_ms_alloc (o := ⟨some 3, .alloc _, _, _, _, _⟩) rfl rfl ?_); intro w5 x5 hB5 hs5; clear hs5)
    | ((with_reducible refine wpList_ms_store (o := ⟨none, .store _ (.tmp 3) _, _, _, _, _⟩) rfl _ _ rfl w4.heap.size Mast.m0 Mast.m0 rfl rfl x5 ?_); go_loud (intro w5b x5b hg5 _; have L5 := Lib.hid (L4.out.on (below_stored hB5 hg5 hB5.size (Nat.le_refl _))); clear x5 hB5 x5b hg5 L4; generalize w4.heap.size = b3 at *))
    | fail)
  refine wp_region_held_drew (S := (fun w' => w'.cell? ⟨w.heap.size, 0, none⟩ = some (.int .i64 2) ∧ w'.cell? ⟨w.heap.size, 1, none⟩ = some (.int .i64 8) ∧ w'.cell? ⟨w.heap.size, 2, none⟩ = some (.int .i64 6) ∧ w'.cell? ⟨w.heap.size, 3, none⟩ = some (.int .i64 8) ∧ w'.cell? ⟨w.heap.size, 4, none⟩ = some (.int .i64 3))) (by kernel_rfl) ((L5.out.on (Below.refl _ _).drew).cells) (fun hHeld => ?_)
  refine wpAnyH_take (i := 0) (oi := ⟨some 23, .move _, _, _, _, _⟩) (v := ?v101) rfl (by kernel_rfl) (by kernel_rfl) (by kernel_rfl) (fun _ _ _ h => h) (Or.inl ⟨by rfl, ?hy101⟩) (by assumption) ?rest101
  case hy101 =>
    intro w hSw
    obtain ⟨hS0, hS1, hS2, hS3, hS4⟩ := hSw
    go_simp
    try with_reducible rfl
  try simp only [Act.put, List.setIfInBounds_toArray, List.set_cons_zero, List.set_cons_succ]
  refine wpAnyH_take (i := 1) (oi := ⟨some 24, .load _ _, _, _, _, _⟩) (v := ?v102) rfl (by kernel_rfl) (by kernel_rfl) (by kernel_rfl) (fun _ _ _ h => h) (Or.inl ⟨by rfl, ?hy102⟩) (by assumption) ?rest102
  case hy102 =>
    intro w hSw
    obtain ⟨hS0, hS1, hS2, hS3, hS4⟩ := hSw
    go_simp
    try with_reducible rfl
  try simp only [Act.put, List.setIfInBounds_toArray, List.set_cons_zero, List.set_cons_succ]
  refine wpAnyH_take (i := 2) (oi := ⟨some 25, .load _ _, _, _, _, _⟩) (v := ?v103) rfl (by kernel_rfl) (by kernel_rfl) (by kernel_rfl) (fun _ _ _ h => h) (Or.inl ⟨by rfl, ?hy103⟩) (by assumption) ?rest103
  case hy103 =>
    intro w hSw
    obtain ⟨hS0, hS1, hS2, hS3, hS4⟩ := hSw
    go_simp
    try with_reducible rfl
  try simp only [Act.put, List.setIfInBounds_toArray, List.set_cons_zero, List.set_cons_succ]
  refine wpAnyH_take (i := 4) (oi := ⟨some 27, .load _ _, _, _, _, _⟩) (v := ?v104) rfl (by kernel_rfl) (by kernel_rfl) (by kernel_rfl) (fun _ _ _ h => h) (Or.inl ⟨by rfl, ?hy104⟩) (by assumption) ?rest104
  case hy104 =>
    intro w hSw
    obtain ⟨hS0, hS1, hS2, hS3, hS4⟩ := hSw
    go_simp
    try with_reducible rfl
  try simp only [Act.put, List.setIfInBounds_toArray, List.set_cons_zero, List.set_cons_succ]
  refine wpAnyH_ready (rs := [3]) (by kernel_rfl) (by simp) ?_
  refine AllReadyH.cons (o := ⟨some 26, .call _, _, _, _, _⟩) rfl (fun K hK => ?_) AllReadyH.nil
  go_simp
  refine (lw_head HM.out 1 1 0 _).mono ?_
  rintro e y1 ⟨rfl, b1⟩
  have L6 := Lib.hid (L5.out.on (bthen (Below.refl _ _).drew b1))
  go_wp2_with fail
  clear hHeld
  refine hK.out _ _ (L6.out.cells) (fun hHeld => ?_)
  clear hK K
  try simp only [Act.put, List.setIfInBounds_toArray, List.set_cons_zero, List.set_cons_succ]
  refine wpAnyH_ready (rs := [5]) (by kernel_rfl) (by simp) ?_
  refine AllReadyH.cons (o := ⟨some 28, .call _, _, _, _, _⟩) rfl (fun K hK => ?_) AllReadyH.nil
  go_simp
  refine (lw_table HM.out 0 0 none [] y1 rfl (by simp) Rd.empty).mono ?_
  rintro e y2 ⟨dt, gt, ht, ds, rfl, t2, hbd, b2⟩
  have L7 := Lib.hid (L6.out.more b2 [dt, gt, ht] hbd)
  have T7 := Lib.hid t2
  clear t2 hbd
  go_wp2_with fail
  clear hHeld
  refine hK.out _ _ (L7.out.cells) (fun hHeld => ?_)
  clear hK K
  try simp only [Act.put, List.setIfInBounds_toArray, List.set_cons_zero, List.set_cons_succ]
  refine wpAnyH_ready (rs := [6]) (by kernel_rfl) (by simp) ?_
  refine AllReadyH.cons (o := ⟨some 29, .call _, _, _, _, _⟩) rfl (fun K hK => ?_) AllReadyH.nil
  go_simp
  refine (lw_write HM.out L7.out (hdM 1 1 0 1) SD0.out.n (by decide) T7.out (by simp) (tabOk_of (by simp)).nar HH1.out.2).mono ?_
  rintro e w6 ⟨rfl, l3, f3⟩
  rw [HW1.out] at l3 ⊢
  have L8 := Lib.hid (l3.less (X := [w.heap.size]) (by simp) (by simp))
  clear l3 f3
  go_wp2_with fail
  clear hHeld
  refine hK.out _ _ (L8.out.cells) (fun hHeld => ?_)
  clear hK K
  try simp only [Act.put, List.setIfInBounds_toArray, List.set_cons_zero, List.set_cons_succ]
  refine wpAnyH_take (i := 7) (oi := ⟨some 6, .assign _, _, _, _, _⟩) (v := ?v105) rfl (by kernel_rfl) (by kernel_rfl) (by kernel_rfl) (fun _ _ _ h => h) (Or.inl ⟨by rfl, ?hy105⟩) (by assumption) ?rest105
  case hy105 =>
    intro w hSw
    obtain ⟨hS0, hS1, hS2, hS3, hS4⟩ := hSw
    go_simp
    try with_reducible rfl
  try simp only [Act.put, List.setIfInBounds_toArray, List.set_cons_zero, List.set_cons_succ]
  refine wpAnyH_done (by kernel_rfl) ?_ _
  clear L5 L6 L7 T7 HW1
  go_wp2_with fail
  apply wp_meet2 (fun W g h => LwSt w W [w.heap.size] d D2 (gcl 2 8 6 8 3))
  case h =>
    refine wp_region_held_drew (S := (fun w' => w'.cell? ⟨w.heap.size, 0, none⟩ = some (.int .i64 2) ∧ w'.cell? ⟨w.heap.size, 1, none⟩ = some (.int .i64 8) ∧ w'.cell? ⟨w.heap.size, 2, none⟩ = some (.int .i64 6) ∧ w'.cell? ⟨w.heap.size, 3, none⟩ = some (.int .i64 8) ∧ w'.cell? ⟨w.heap.size, 4, none⟩ = some (.int .i64 3))) (by kernel_rfl) ((L8.out.on (Below.refl _ _).drew).cells) (fun hHeld => ?_)
    refine wpAnyH_take (i := 0) (oi := ⟨some 30, .move _, _, _, _, _⟩) (v := ?v106) rfl (by kernel_rfl) (by kernel_rfl) (by kernel_rfl) (fun _ _ _ h => h) (Or.inl ⟨by rfl, ?hy106⟩) (by assumption) ?rest106
    case hy106 =>
      intro w hSw
      obtain ⟨hS0, hS1, hS2, hS3, hS4⟩ := hSw
      go_simp
      try with_reducible rfl
    try simp only [Act.put, List.setIfInBounds_toArray, List.set_cons_zero, List.set_cons_succ]
    refine wpAnyH_take (i := 1) (oi := ⟨some 31, .load _ _, _, _, _, _⟩) (v := ?v107) rfl (by kernel_rfl) (by kernel_rfl) (by kernel_rfl) (fun _ _ _ h => h) (Or.inl ⟨by rfl, ?hy107⟩) (by assumption) ?rest107
    case hy107 =>
      intro w hSw
      obtain ⟨hS0, hS1, hS2, hS3, hS4⟩ := hSw
      go_simp
      try with_reducible rfl
    try simp only [Act.put, List.setIfInBounds_toArray, List.set_cons_zero, List.set_cons_succ]
    refine wpAnyH_take (i := 2) (oi := ⟨some 32, .load _ _, _, _, _, _⟩) (v := ?v108) rfl (by kernel_rfl) (by kernel_rfl) (by kernel_rfl) (fun _ _ _ h => h) (Or.inl ⟨by rfl, ?hy108⟩) (by assumption) ?rest108
    case hy108 =>
      intro w hSw
      obtain ⟨hS0, hS1, hS2, hS3, hS4⟩ := hSw
      go_simp
      try with_reducible rfl
    try simp only [Act.put, List.setIfInBounds_toArray, List.set_cons_zero, List.set_cons_succ]
    refine wpAnyH_take (i := 4) (oi := ⟨some 34, .load _ _, _, _, _, _⟩) (v := ?v109) rfl (by kernel_rfl) (by kernel_rfl) (by kernel_rfl) (fun _ _ _ h => h) (Or.inl ⟨by rfl, ?hy109⟩) (by assumption) ?rest109
    case hy109 =>
      intro w hSw
      obtain ⟨hS0, hS1, hS2, hS3, hS4⟩ := hSw
      go_simp
      try with_reducible rfl
    try simp only [Act.put, List.setIfInBounds_toArray, List.set_cons_zero, List.set_cons_succ]
    refine wpAnyH_ready (rs := [3, 5]) (by kernel_rfl) (by simp) ?_
    refine AllReadyH.cons (o := ⟨some 33, .call _, _, _, _, _⟩) rfl (fun K hK => ?_) (AllReadyH.cons (o := ⟨some 35, .buildSlice _ _ _, _, _, _, _⟩) rfl (fun K hK => ?_) AllReadyH.nil)
    · go_simp
      refine (lw_head HM.out 2 1 7 _).mono ?_
      rintro e y1 ⟨rfl, b1⟩
      have L9 := Lib.hid (L8.out.on (bthen (Below.refl _ _).drew b1))
      go_wp2_with fail
      clear hHeld
      refine hK.out _ _ (L9.out.cells) (fun hHeld => ?_)
      clear hK K
      try simp only [Act.put, List.setIfInBounds_toArray, List.set_cons_zero, List.set_cons_succ]
      refine wpAnyH_ready (rs := [5]) (by kernel_rfl) (by simp) ?_
      refine AllReadyH.cons (o := ⟨some 35, .buildSlice _ _ _, _, _, _, _⟩) rfl (fun K hK => ?_) AllReadyH.nil
      go_simp
      have b2 := (Below.refl y1.heap.size y1).alloc (Nat.le_refl _) (.cells #[.int .u32 5] 32 (0, 0))
      have L10 := Lib.hid (L9.out.on b2)
      have R10 := Lib.hid (rd_new y1 [.int .u32 5] 32 (0, 0))
      clear hHeld
      refine hK.out _ _ (L10.out.cells) (fun hHeld => ?_)
      clear hK K
      try simp only [Act.put, List.setIfInBounds_toArray, List.set_cons_zero, List.set_cons_succ]
      generalize hyy : y1.alloc (.cells #[.int .u32 5] 32 (0, 0)) = y2 at *
      refine wpAnyH_ready (rs := [6]) (by kernel_rfl) (by simp) ?_
      refine AllReadyH.cons (o := ⟨some 36, .call _, _, _, _, _⟩) rfl (fun K hK => ?_) AllReadyH.nil
      go_simp
      refine (lw_table HM.out 1 1 (some ⟨y1.heap.size, 0, none⟩) [5] y2 rfl (by simp) R10.out).mono ?_
      rintro e y3 ⟨dt, gt, ht, ds, rfl, t2, hbd, b3⟩
      have L11 := Lib.hid (L10.out.more b3 [dt, gt, ht] hbd)
      have T11 := Lib.hid t2
      clear t2 hbd
      go_wp2_with fail
      clear hHeld
      refine hK.out _ _ (L11.out.cells) (fun hHeld => ?_)
      clear hK K
      try simp only [Act.put, List.setIfInBounds_toArray, List.set_cons_zero, List.set_cons_succ]
      refine wpAnyH_ready (rs := [7]) (by kernel_rfl) (by simp) ?_
      refine AllReadyH.cons (o := ⟨some 37, .call _, _, _, _, _⟩) rfl (fun K hK => ?_) AllReadyH.nil
      go_simp
      refine (lw_write HM.out L11.out (hdM 2 1 7 1) SD1.out.n (by decide) T11.out (by simp) (tabOk_of (by simp)).nar HH2.out.2).mono ?_
      rintro e y4 ⟨rfl, l3, f3⟩
      rw [HW2.out] at l3 ⊢
      have L12 := Lib.hid (l3.less (X := [w.heap.size]) (by simp) (by simp))
      clear l3 f3
      go_wp2_with fail
      clear hHeld
      refine hK.out _ _ (L12.out.cells) (fun hHeld => ?_)
      clear hK K
      try simp only [Act.put, List.setIfInBounds_toArray, List.set_cons_zero, List.set_cons_succ]
      refine wpAnyH_take (i := 8) (oi := ⟨some 7, .assign _, _, _, _, _⟩) (v := ?v110) rfl (by kernel_rfl) (by kernel_rfl) (by kernel_rfl) (fun _ _ _ h => h) (Or.inl ⟨by rfl, ?hy110⟩) (by assumption) ?rest110
      case hy110 =>
        intro w hSw
        obtain ⟨hS0, hS1, hS2, hS3, hS4⟩ := hSw
        go_simp
        try with_reducible rfl
      try simp only [Act.put, List.setIfInBounds_toArray, List.set_cons_zero, List.set_cons_succ]
      refine wpAnyH_done (by kernel_rfl) ?_ _
      have F := L12.out
      try simp only [World.size_drew]
      generalize y1.heap.size = g9
      exact ⟨g9, dt, F, rfl⟩
    · go_simp
      have b1 : Below w6.heap.size w6 (w6.alloc (.cells #[.int .u32 5] 32 (0, 0))).drew := ((Below.refl w6.heap.size w6).alloc (Nat.le_refl _) _).drew
      have L9 := Lib.hid (L8.out.on b1)
      have R9 : Hid (Rd (w6.alloc (.cells #[.int .u32 5] 32 (0, 0))).drew (w6.alloc (.cells #[.int .u32 5] 32 (0, 0))).drew.heap.size (some ⟨w6.heap.size, 0, none⟩) (u32s [5])) := Lib.hid (rd_new w6 [.int .u32 5] 32 (0, 0))
      clear hHeld
      refine hK.out _ _ (L9.out.cells) (fun hHeld => ?_)
      clear hK K
      try simp only [Act.put, List.setIfInBounds_toArray, List.set_cons_zero, List.set_cons_succ]
      generalize hyy : (w6.alloc (.cells #[.int .u32 5] 32 (0, 0))).drew = y1 at *
      refine wpAnyH_ready (rs := [3]) (by kernel_rfl) (by simp) ?_
      refine AllReadyH.cons (o := ⟨some 33, .call _, _, _, _, _⟩) rfl (fun K hK => ?_) AllReadyH.nil
      go_simp
      refine (lw_head HM.out 2 1 7 _).mono ?_
      rintro e y2 ⟨rfl, b2⟩
      have L10 := Lib.hid (L9.out.on b2)
      have R10 := Lib.hid ((R9.out.below b2).more b2.size)
      go_wp2_with fail
      clear hHeld
      refine hK.out _ _ (L10.out.cells) (fun hHeld => ?_)
      clear hK K
      try simp only [Act.put, List.setIfInBounds_toArray, List.set_cons_zero, List.set_cons_succ]
      refine wpAnyH_ready (rs := [6]) (by kernel_rfl) (by simp) ?_
      refine AllReadyH.cons (o := ⟨some 36, .call _, _, _, _, _⟩) rfl (fun K hK => ?_) AllReadyH.nil
      go_simp
      refine (lw_table HM.out 1 1 (some ⟨w6.heap.size, 0, none⟩) [5] y2 rfl (by simp) R10.out).mono ?_
      rintro e y3 ⟨dt, gt, ht, ds, rfl, t2, hbd, b3⟩
      have L11 := Lib.hid (L10.out.more b3 [dt, gt, ht] hbd)
      have T11 := Lib.hid t2
      clear t2 hbd
      go_wp2_with fail
      clear hHeld
      refine hK.out _ _ (L11.out.cells) (fun hHeld => ?_)
      clear hK K
      try simp only [Act.put, List.setIfInBounds_toArray, List.set_cons_zero, List.set_cons_succ]
      refine wpAnyH_ready (rs := [7]) (by kernel_rfl) (by simp) ?_
      refine AllReadyH.cons (o := ⟨some 37, .call _, _, _, _, _⟩) rfl (fun K hK => ?_) AllReadyH.nil
      go_simp
      refine (lw_write HM.out L11.out (hdM 2 1 7 1) SD1.out.n (by decide) T11.out (by simp) (tabOk_of (by simp)).nar HH2.out.2).mono ?_
      rintro e y4 ⟨rfl, l3, f3⟩
      rw [HW2.out] at l3 ⊢
      have L12 := Lib.hid (l3.less (X := [w.heap.size]) (by simp) (by simp))
      clear l3 f3
      go_wp2_with fail
      clear hHeld
      refine hK.out _ _ (L12.out.cells) (fun hHeld => ?_)
      clear hK K
      try simp only [Act.put, List.setIfInBounds_toArray, List.set_cons_zero, List.set_cons_succ]
      refine wpAnyH_take (i := 8) (oi := ⟨some 7, .assign _, _, _, _, _⟩) (v := ?v111) rfl (by kernel_rfl) (by kernel_rfl) (by kernel_rfl) (fun _ _ _ h => h) (Or.inl ⟨by rfl, ?hy111⟩) (by assumption) ?rest111
      case hy111 =>
        intro w hSw
        obtain ⟨hS0, hS1, hS2, hS3, hS4⟩ := hSw
        go_simp
        try with_reducible rfl
      try simp only [Act.put, List.setIfInBounds_toArray, List.set_cons_zero, List.set_cons_succ]
      refine wpAnyH_done (by kernel_rfl) ?_ _
      have F := L12.out
      try simp only [World.size_drew]
      generalize w6.heap.size = g9
      exact ⟨g9, dt, F, rfl⟩
  intro w7 g9 dt9 hL7
  have L7 := Lib.hid hL7
  clear hL7
  have c0 : w7.cell? ⟨w.heap.size, 0, none⟩ = some (.int .i64 2) := L7.out.ge.cell 0
  have c1 : w7.cell? ⟨w.heap.size, 1, none⟩ = some (.int .i64 8) := L7.out.ge.cell 1
  have c2 : w7.cell? ⟨w.heap.size, 2, none⟩ = some (.int .i64 6) := L7.out.ge.cell 2
  have c3 : w7.cell? ⟨w.heap.size, 3, none⟩ = some (.int .i64 8) := L7.out.ge.cell 3
  have c4 : w7.cell? ⟨w.heap.size, 4, none⟩ = some (.int .i64 3) := L7.out.ge.cell 4
  go_wp2_with fail
  refine (lw_pick HM.out L7.out SD2.out.n.ok SD2.out.od SD2.out.up SD2.out.so).mono ?_
  rw [HP2.out]
  rintro e w8 ⟨hp, hF⟩
  unfold LwPk at hp
  obtain ⟨dt, gt, ht, rfl, htb, hL⟩ := hp
  have L8 := Lib.hid hL
  have T8 := Lib.hid htb
  clear hL hF c0 c1 c2 c3 c4 L7 htb
  simp only at T8
  go_wp2_with (first
    | ((with_reducible refine wpList_ms_alloc (o := ⟨some 8, .alloc _, _, _, _, _⟩) rfl rfl ?_); intro w9 x9 hB9 hs9)
    | ((with_reducible refine wpList_ms_store (o := ⟨none, .store _ (.tmp 8) _, _, _, _, _⟩) rfl _ _ rfl w8.heap.size (hdM 2 1 7 1) Mast.m0 rfl rfl x9 ?_); go_loud (intro w10 x10 hg10 hs10; have K10 := below_stored hB9 hg10 hB9.size (Nat.le_refl _); have L10 := Lib.hid (L8.out.more K10 [w8.heap.size] (by have h1 := hB9.size; have h2 := x10.lt; intro b hb; simp at hb; omega)); have X10 := Lib.hid x10; have T10 := Lib.hid (T8.out.on K10); clear x9 hB9 hs9 x10 hg10 hs10 K10 L8 T8; generalize w8.heap.size = b8 at *))
    | fail)
  have HCall := Lib.hid (read_any (T := TX w.heap.size ([b8] ++ ([dt, gt, ht] ++ [w.heap.size]))) (1, 0) ⟨w64 (by decide) (by decide), w64 (by decide) (by decide)⟩ L10.out.dv.hT SD2.out.n.ok L10.out.dv.1)
  rw [HRd.out, HPg.out] at HCall
  refine HCall.out.mono ?_
  rintro e w11 ⟨rfl, hI, hF⟩
  have L11 := Lib.hid (L10.out.put hI hF)
  have X11 := Lib.hid (hF.box X10.out (by simp))
  have T11 := Lib.hid (T10.out.tx hF (by simp))
  clear hI hF HCall L10 X10 T10
  go_wp2_with (first
    | ((with_reducible refine wpList_pg_alloc (o := ⟨some 11, .alloc _, _, _, _, _⟩) rfl rfl ?_); intro w12 x12 hB12 hs12; clear hs12)
    | ((with_reducible refine wpList_pg_store (o := ⟨none, .store _ (.tmp 11) _, _, _, _, _⟩) rfl _ _ rfl w11.heap.size pl pg0 HPl.out rfl rfl rfl x12 ?_); go_loud (intro w13 x13 hg13 _; have K13 := below_stored hB12 hg13 hB12.size (Nat.le_refl _); have L13 := Lib.hid (L11.out.on K13); have X13 := X11.out.on K13; have T13 := Lib.hid (T11.out.on K13); have cm1 : w13.cell? ⟨b8, 1, none⟩ = some (.int .i64 2) := X13.cell 1; have cm3 : w13.cell? ⟨b8, 3, none⟩ = some (.int .i64 7) := X13.cell 3; have cp : w13.cell? ⟨w11.heap.size, 0, none⟩ = some (.int .u8 129) := by { have h := (x13.cell 0).trans (bs_get (by rw [HPl.out]; decide)); rw [HPz.out] at h; exact h }; have HGe := Lib.hid (tget_any w13 0 T13.out); rw [HGt.out] at HGe; clear x12 hB12 x13 hg13 K13 X13 L11 X11 T11; generalize w11.heap.size = b11 at *))
    | fail)
  refine HGe.out.mono ?_
  rintro e w14 ⟨rfl, rfl⟩
  have HB := Lib.hid L13.out.dv.2.1
  go_wp2
  go_ret
  exact ⟨rfl, HB.out⟩
end Go.Proofs.YtgnpohkippegpaaGreat

/-
  The document's answers for layer 7: Lay.
-/
namespace Go.Proofs.YtgnpohkippegpaaGreat
open Go.RowKit Word Crc Leaf
set_option linter.unusedVariables false

theorem TwoBx.grew {w W W' : World} {T U : TypeId} {cs ds : List Value} (h : TwoBx w W T cs U ds) (hb : Below (w.heap.size + 2) W W') : TwoBx w W' T cs U ds := ⟨h.1.below hb (by omega), h.2.1.below hb (by omega), h.2.2.1.trans (hb.mono (by omega)), Nat.le_trans h.2.2.2 hb.size⟩
theorem layL_pad (l : Lf) (h : In l) : sealed (pad ([128] ++ le 8 l.gen ++ le 4 l.index ++ flat l.places)) = layL l := by
  unfold In at h
  have e : pad ([128] ++ le 8 l.gen ++ le 4 l.index ++ flat l.places) = front l := by
    have hl : (([128] : List Int) ++ le 8 l.gen ++ le 4 l.index ++ flat l.places).length = 53 := by simp [le_length, flat_length, h]
    unfold pad front
    rw [hl]
    simp only [List.append_assoc]
  rw [e]
  rfl

set_option maxRecDepth 100000 in
set_option maxHeartbeats 4000000 in
theorem rlay7_any (l : Lf) (w : World) (hk : Ok l) (hi : In l) :
    Calls Tryz.prog 66 #[.agg (lcs l).toArray] w fun e w' => e = .returned (.agg (bs (layL l)).toArray) ∧ Below w.heap.size w w' := by
  obtain ⟨m, hm, hsz⟩ := big_size (P := Tryz.prog) (t := 43) (s := 64) (by kernel_rfl)
  have hm0 : ¬ m = 0 := by omega
  have HM := Lib.hid hm
  have HI := Lib.hid hi
  have HK := Lib.hid hk
  clear hm hi hk
  go_enter Tryz.func66, Tryz.ntmps66
  go_wp2_with (first
    | ((with_reducible refine wpList_lf_box (o := ⟨some 1, .box _ _, _, _, _, _⟩) rfl _ rfl l rfl ?_); intro w1 x0 hB1 hs1)
    | ((with_reducible refine wpList_pg_alloc (o := ⟨some 2, .alloc _, _, _, _, _⟩) rfl rfl ?_); intro w2 x1 hB2 hs2; have L := TwoBx.start x0 hB1 hs1 x1 hB2 hs2; rw [hs1]; clear hs1 hs2 x0 x1 hB1 hB2; have L' := L.on ((Below.refl _ _).alloc (Nat.le_refl _) (.cells (bs [128]).toArray 5 (0, 0))); have c1 : (w2.alloc (.cells #[.int .u8 128] 5)).cell? ⟨w.heap.size, 0, none⟩ = some (.int .i64 l.gen) := L'.1.lf.1)
    | fail)
  have hown := own_base0 (lit_own (w := w2) [128] 1 rfl (by decide)) L.2.2.2
  clear L
  change (w2.alloc (.cells #[.int .u8 128] 5)).ownsRow _ _ _ _ _ _ at hown
  change TwoBx w (w2.alloc (.cells #[.int .u8 128] 5)) _ _ _ _ at L'
  generalize w2.heap.size = b3 at *
  generalize w2.alloc _ = w3 at *
  rename TwoBx w w3 _ _ _ _ => L
  -- gen
  refine (rlow7_any l.gen 8 w3 (by have := HK.out.1; omega) (by have := HK.out.1; omega) (by omega)).mono ?_
  rintro e w4 ⟨V, rfl, hlow, hb⟩
  obtain ⟨A, cc, hv⟩ := own_slice hlow
  rw [hv] at hlow ⊢
  clear hv
  have hown' := own_below hown hb
  have hr : Rd w4 w4.heap.size A (bs (le 8 l.gen)) := Rd.own hlow
  replace L := L.on hb
  have HB := L.2.2.2
  have HL := Lib.hid L
  clear hown hlow hb L c1
  rename w4.ownsRow _ _ _ _ _ _ => hown
  go_wp2_with (first
    | (at_builtin; go_loud (refine wpList_append_rd _ rfl _ _ _ rfl (w.heap.size + 2) 5 _ 1 1 elem8 (.slice (some ⟨b3, 0, none⟩) 1 1) 1 (bs ([128])) rfl hown w4.heap.size A 8 cc (bs (le 8 l.gen)) rfl (by rw [bs_length, le_length]) hr (bs_one _) (by unfold maxLen; omega) (by omega) HB ?_); intro v0 w5 hown0 hg0 _; have L := HL.out.grew ((Below.refl _ _).grown hg0 HB fun g hg => (hown.lt g hg).1); have c1 := L.1.lf.2)
    | fail)
  clear hg0 hown hr HL HB
  rename w5.ownsRow _ _ _ _ _ _ => hown
  rw [← bs_append] at hown
  -- index
  refine (rlow7_any l.index 4 w5 (by have := HK.out.2.1; omega) (by have := HK.out.2.1; omega) (by omega)).mono ?_
  rintro e w6 ⟨V, rfl, hlow, hb⟩
  obtain ⟨A, cc, hv⟩ := own_slice hlow
  rw [hv] at hlow ⊢
  clear hv
  have hown' := own_below hown hb
  have hr : Rd w6 w6.heap.size A (bs (le 4 l.index)) := Rd.own hlow
  replace L := L.on hb
  have HB := L.2.2.2
  have HL := Lib.hid L
  clear hown hlow hb L c1
  rename w6.ownsRow _ _ _ _ _ _ => hown
  go_wp2_with (first
    | (at_builtin; go_loud (refine wpList_append_rd _ rfl _ _ _ rfl (w.heap.size + 2) 5 _ 1 1 elem8 v0 9 (bs ([128] ++ le 8 l.gen)) rfl hown w6.heap.size A 4 cc (bs (le 4 l.index)) rfl (by rw [bs_length, le_length]) hr (bs_one _) (by unfold maxLen; omega) (by omega) HB ?_); intro v1 w7 hown1 hg1 _; have L := HL.out.grew ((Below.refl _ _).grown hg1 HB fun g hg => (hown.lt g hg).1))
    | fail)
  clear hg1 hown hr HL HB
  rename w7.ownsRow _ _ _ _ _ _ => hown
  rw [← bs_append] at hown
  have HP := Lib.hid (layL_pad l HI.out)
  have HZl := Lib.hid (show (([128] : List Int) ++ le 8 l.gen ++ le 4 l.index).length = 13 by simp [le_length])
  have HZo := Lib.hid (show octets (([128] : List Int) ++ le 8 l.gen ++ le 4 l.index ++ flat l.places) from Rec.octets_append (Rec.octets_append (Rec.octets_append (fun z hz => by simp at hz; omega) (le_bytes _ _)) (le_bytes _ _)) (flat_octets _))
  have HIn0 := Lib.hid (And.intro L hown)
  clear L hown
  generalize [128] ++ le 8 l.gen ++ le 4 l.index = zs at *
  -- the places
  go_loopw [3, 4] (fun o i wr => ∃ k : Nat, k ≤ 10 ∧ i = .int .i64 k ∧ TwoBx w wr 86 (lcs l) 43 (bs pg0) ∧ wr.ownsRow (w.heap.size + 2) 5 1 o (13 + 4 * k) (bs (zs ++ flat (l.places.take k)))) (fun _ i _ => 10 - (intOf i).toNat)
  case atStart => exact ⟨0, by omega, rfl, HIn0.out.1, by simpa [flat] using HIn0.out.2⟩
  case round =>
    clear HIn0
    obtain ⟨k, hk, rfl, L, hown⟩ := hrel
    by_cases hlt : k < 10
    · have hkl : k < l.places.length := by rw [HI.out]; exact hlt
      have cx := L.1.lfPlace hkl
      have hpl := HK.out.2.2 _ (getD_mem hkl)
      have HT := Lib.hid (show bs (zs ++ flat (l.places.take (k + 1))) = bs (zs ++ flat (l.places.take k)) ++ bs (le 4 (l.places.getD k 0)) by
        rw [flat_snoc _ _ hkl, ← List.append_assoc, bs_append _ (le 4 _)])
      have HX := Lib.hid (And.intro L hown)
      clear L hown hkl
      generalize l.places.getD k 0 = x at cx hpl HT
      have HPl := Lib.hid hpl
      clear hpl
      go_wp2_with fail
      refine (rlow7_any x 4 wr (by have := HPl.out; omega) (by have := HPl.out; omega) (by omega)).mono ?_
      rintro e w8 ⟨V, rfl, hlow, hb⟩
      obtain ⟨A, cc, hv⟩ := own_slice hlow
      rw [hv] at hlow ⊢
      clear hv cx
      have hown := own_below HX.out.2 hb
      have hr : Rd w8 w8.heap.size A (bs (le 4 x)) := Rd.own hlow
      have L := HX.out.1.on hb
      have HB := L.2.2.2
      have HL := Lib.hid L
      clear hlow hb L HX
      go_wp2_with (first
        | (at_builtin; go_loud (refine wpList_append_rd _ rfl _ _ _ rfl (w.heap.size + 2) 5 _ 1 1 elem8 u3 (13 + 4 * k) (bs (zs ++ flat (l.places.take k))) rfl hown w8.heap.size A 4 cc (bs (le 4 x)) rfl (by rw [bs_length, le_length]) hr (bs_one _) (by unfold maxLen; omega) (by omega) HB ?_); intro v2 w9 hown2 hg2 _; have HL2 := Lib.hid (HL.out.grew ((Below.refl _ _).grown hg2 HB fun g hg => (hown.lt g hg).1)); have HO2 := Lib.hid hown2)
        | fail)
      go_roundw
      case rel => exact ⟨k + 1, by omega, by go_num, HL2.out, by rw [HT.out, show 13 + 4 * (k + 1) = 13 + 4 * k + 4 by omega]; exact HO2.out⟩
      case measure => simp [intOf]; omega
    · obtain rfl : k = 10 := by omega
      rw [List.take_of_length_le (by rw [HI.out]; exact Nat.le_refl _)] at hown
      obtain ⟨A, cc, hv⟩ := own_slice hown
      rw [hv] at hown ⊢
      clear hv
      have HL := Lib.hid L
      have HF := Lib.hid (rfull_any (w.heap.size + 2) A 53 cc (zs ++ flat l.places) wr (by omega) HZo.out L.2.2.2 hown)
      rw [HP.out] at HF
      clear L hown
      rw [show 13 + 4 * 10 = 53 from rfl]
      go_wp2_with fail
      refine HF.out.mono ?_
      rintro e w8 ⟨rfl, hb8⟩
      have HL8 := Lib.hid (HL.out.grew hb8)
      have HX8 := Lib.hid HL8.out.2.1
      have HSL := Lib.hid (layL_length l HI.out)
      clear HL HF hb8
      go_wp2_with (first
        | ((with_reducible refine wpList_pg_store (o := ⟨none, .store _ _ _, _, _, _, _⟩) rfl _ _ rfl (w.heap.size + 1) (layL l) pg0 HSL.out rfl rfl rfl HX8.out ?_); intro w9 hb9 hg9 _)
        | fail)
      have hldF := big_load0 Tryz.prog (w.heap.size + 1) 0 (bs (layL l)) m (by rw [bs_length, HSL.out, HM.out]) _ hb9.range0
      generalize hR : bs (layL l) = R at hldF ⊢
      exact bodyPost_ret (v := .agg R.toArray) (by simp [results, Tryz.results66, go_sem, hsz, hldF]) rfl ⟨rfl, below_stored HL8.out.2.2.1 hg9 HL8.out.2.2.1.size (by omega)⟩
end Go.Proofs.YtgnpohkippegpaaGreat

/-
  DfH
-/
import Derived.Test.YtkdhibjmfanhcaaMg34
/-
  The document's answers for layer 5: Crash.
-/
namespace Go.Proofs.Ytkdhibjmfanhcaa
open Go.RowKit Geom Zone Dev
set_option linter.unusedVariables false

/-- where all orders of a region come to one end, but for a block, a row and a slice that hang on the order -/
def MeetC (A : Nat → Option Addr → Nat → Value → Act) (R : World → Nat → Option Addr → Nat → Value → Prop) : Exit → Act → World → Prop
  | .normal, a, w => ∃ b A4 k4 v30, R w b A4 k4 v30 ∧ a = A b A4 k4 v30
  | _, _, _ => False
theorem wp_meetC {P : Program} {c : Code} {Q : Exit → Act → World → Prop} {a : Act} {w : World} {A : Nat → Option Addr → Nat → Value → Act} (R : World → Nat → Option Addr → Nat → Value → Prop) (h : c.wp P (MeetC A R) a w)
    (h2 : ∀ w b A4 k4 v30, R w b A4 k4 v30 → Q .normal (A b A4 k4 v30) w) : c.wp P Q a w :=
  Code.wp_mono (fun e a' w' hm => by
    cases e <;> first | exact (hm : False).elim | (obtain ⟨b, A4, k4, v30, hr, rfl⟩ := (hm : ∃ b A4 k4 v30, R w' b A4 k4 v30 ∧ a' = A b A4 k4 v30); exact h2 _ b A4 k4 v30 hr)) h
set_option maxRecDepth 100000 in
set_option maxHeartbeats 400000000 in
theorem dcrash_any (N : Nat) (conv soft seq size opn : Int) (Q : Nat → Prop) (v : KV) (d : Dk) (keepA : Option Addr) (kn kc : Nat) (keep : List Int) (soft0 tear : Int) (w : World) (hN : N ≤ 1000) (hok : Ok conv soft seq size opn) (hI : DkIs N conv soft seq size opn Q w v d)
    (hpl : ∀ c ∈ d.cached, 0 ≤ c.1 ∧ c.1 < conv + seq) (hkr : Rd w w.heap.size keepA (ints keep)) (hkl : keep.length = kn) (hkc : kn ≤ kc) (hkm : kc ≤ maxLen) (hk64 : ∀ y ∈ keep, W64 y) (h0 : 0 ≤ soft0 ∧ soft0 < 18446744073709551616) (ht : W64 tear) :
    Calls Try.prog 27 #[.agg (kcs v).toArray, .agg #[.slice keepA kn kc, .int .u64 soft0, .int .i64 tear]] w fun e w' => ∃ v', e = .returned (.agg (kcs v').toArray) ∧
      DkIs (N + 1) conv soft seq size opn (fun k => Q k ∨ w.heap.size ≤ k) w' v' (crashK conv size keep soft0 tear d) ∧ Below w.heap.size w w' := by
  obtain ⟨⟨q0, q1, q2, q3, q4⟩, ⟨Az, nz, cz, hz, hzl, hzn, hzr⟩, ⟨Ad, nd, cd, hd, hdl, hdn, hdr⟩, ⟨As, ns, cs, hs, hsl, hsw, hsr⟩, ⟨Ac, nc, cc, hc, hcl, hcw, hcr⟩, hsum, hnum⟩ := id hI
  have HQ := Lib.hid (And.intro hsr (And.intro hcr (And.intro hzr (And.intro hdr (And.intro hsum hnum)))))
  obtain ⟨mk, hmk, hszk⟩ := big_size (P := Try.prog) (t := 36) (s := 13) (by kernel_rfl)
  have hmk0 : ¬ mk = 0 := by omega
  have HI := Lib.hid hI
  clear hI
  go_enter Try.func27, Try.ntmps27
  go_wp2_with (first
    | ((with_reducible refine wpList_kd_box (o := ⟨some 2, .box _ _, _, _, _, _⟩) rfl _ rfl v rfl ?_); intro w1 x0 hB1 hs1)
    | ((with_reducible refine wpList_wk_box (o := ⟨some 3, .box _ _, _, _, _, _⟩) rfl _ rfl (wkc keepA kn kc soft0 tear) rfl ?_); intro w2 x1 hB2 hs2)
    | ((with_reducible refine wpList_kd_alloc (o := ⟨some 4, .alloc _, _, _, _, _⟩) rfl rfl ?_); intro w3 x2 hB3 hs3; have L := CrSt.start x0 hB1 hs1 x1 hB2 hs2 x2 hB3 hs3; rw [hs2, hs1]; clear hs1 hs2 hs3 x0 x1 x2 hB1 hB2 hB3)
    | fail)
  obtain ⟨c0, c1, c2, c3, c4⟩ := L.1.kd
  obtain ⟨_, c6, c7, _⟩ := L.1.kdv
  obtain ⟨_, _, _, c12⟩ := L.1.kdn
  rw [q0] at c0
  rw [q1] at c1
  rw [q2] at c2
  rw [q3] at c3
  rw [q4] at c4
  rw [hd] at c6
  rw [hs] at c7
  have HL := Lib.hid L
  clear L
  have hrs : Row w3 w3.heap.size As (wcs d.safe) := (hsr.row.below HL.out.2.2.2.1).more HL.out.2.2.2.1.size
  have hsn : As = none → d.safe = [] := fun hA => by
    cases hq : d.safe with
    | nil => rfl
    | cons x r =>
      obtain ⟨g, hg, _⟩ := hsr (wcs_ne hsw (by rw [hq]; simp))
      rw [hA] at hg
      cases hg
  have HR := Lib.hid (And.intro hrs.rd (And.intro (wcs_length hsw) hsl))
  have hns : ns ≤ 1000 := by omega
  have hKS : ∀ w', Below w3.heap.size w3 w' → (w'.cell? ⟨w.heap.size, 0, none⟩ = some (.int .i64 conv) ∧ w'.cell? ⟨w.heap.size, 1, none⟩ = some (.int .i64 soft) ∧ w'.cell? ⟨w.heap.size, 2, none⟩ = some (.int .i64 seq) ∧ w'.cell? ⟨w.heap.size, 3, none⟩ = some (.int .i64 size) ∧ w'.cell? ⟨w.heap.size, 4, none⟩ = some (.int .i64 opn) ∧
      w'.cell? ⟨w.heap.size, 6, none⟩ = some (.slice Ad nd cd) ∧ w'.cell? ⟨w.heap.size, 7, none⟩ = some (.slice As ns cs) ∧ w'.cell? ⟨w.heap.size, 12, none⟩ = some (.int .i64 v.ill)) := fun w' hb => by
    have L' := (HL.out.on hb).1
    refine ⟨?_, ?_, ?_, ?_, ?_, ?_, ?_, ?_⟩
    · rw [← q0]; exact L'.kd.1
    · rw [← q1]; exact L'.kd.2.1
    · rw [← q2]; exact L'.kd.2.2.1
    · rw [← q3]; exact L'.kd.2.2.2.1
    · rw [← q4]; exact L'.kd.2.2.2.2
    · rw [← hd]; exact L'.kdv.2.1
    · rw [← hs]; exact L'.kdv.2.2.1
    · exact L'.kdn.2.2.2
  have SO := Lib.hid hKS
  have OW1 := Lib.hid (show ((w3.alloc (.cells #[] 74)).drew).ownsRow w3.heap.size 74 66 (.slice (some ⟨w3.heap.size, 0, none⟩) 0 0) 0 [] from World.ownsRow_lit w3 #[] 0 (Nat.le_refl _) (by decide) (by simp))
  have OW2 := Lib.hid fun o => (show (((w3.alloc (.cells #[] 74)).alloc o).drew).ownsRow w3.heap.size 74 66 (.slice (some ⟨w3.heap.size, 0, none⟩) 0 0) 0 [] from (World.ownsRow_lit w3 #[] 0 (Nat.le_refl _) (by decide) (by simp)).alloc o)
  have OW3 := Lib.hid fun o => (show (((w3.alloc o).alloc (.cells #[] 74)).drew).ownsRow w3.heap.size 74 66 (.slice (some ⟨w3.heap.size + 1, 0, none⟩) 0 0) 0 [] from by
    have := World.ownsRow_lit (w3.alloc o) (#[] : Array Value) 0 (base := w3.heap.size) (e := 74) (size := 66) (by simp) (by decide) (by simp)
    have h2 : ((w3.alloc o).alloc (.cells #[] 74)).ownsRow w3.heap.size 74 66 (.slice (some ⟨w3.heap.size + 1, 0, none⟩) 0 0) 0 [] := by simpa using this
    exact h2)
  have BD2 := Lib.hid fun o o' => (((Below.refl w3.heap.size w3).alloc (Nat.le_refl _) o).alloc (by simp) o' : Below w3.heap.size w3 ((w3.alloc o).alloc o')).drew
  have BX2 := Lib.hid fun (w4 : World) (hg : (((w3.alloc (.cells #[] 74)).alloc (.cells (kcs kd0).toArray 36)).drew).grownBy w4 (Value.slice (some ⟨w3.heap.size, 0, none⟩) 0 0).ownBlock) => show Box w4 (w3.heap.size + 1) 36 (kcs kd0) from by
    have hx := Box.new (w3.alloc (.cells #[] 74)) 36 (kcs kd0)
    rw [show (w3.alloc (.cells #[] 74)).heap.size = w3.heap.size + 1 by simp] at hx
    exact hx.same (hg.block _ (by simp) (fun e => by simp [Value.ownBlock] at e))
  have BX3 := Lib.hid fun (w4 : World) (hg : (((w3.alloc (.cells (kcs kd0).toArray 36)).alloc (.cells #[] 74)).drew).grownBy w4 (Value.slice (some ⟨w3.heap.size + 1, 0, none⟩) 0 0).ownBlock) => show Box w4 w3.heap.size 36 (kcs kd0) from by
    have hx := Box.new w3 36 (kcs kd0)
    exact (hx.same (Below.heap_alloc _ _ _ (by simp))).same (hg.block _ (by simp; omega) (fun e => by simp [Value.ownBlock] at e))
  have BD1 := Lib.hid fun o => ((Below.refl w3.heap.size w3).alloc (Nat.le_refl _) o : Below w3.heap.size w3 (w3.alloc o)).drew
  have RD1 := Lib.hid fun o => (HR.out.1.alloc (Nat.le_refl _) o : Rd ((w3.alloc o).drew) w3.heap.size As (wcs d.safe))
  have RD3 := Lib.hid fun o o' => ((HR.out.1.alloc (Nat.le_refl _) o).alloc (by simp) o' : Rd (((w3.alloc o).alloc o').drew) w3.heap.size As (wcs d.safe))
  have RD2 := Lib.hid (show (wcs d.safe).length = ns * 66 ∧ (∀ u ∈ wcs d.safe, u.oneCell' = true) ∧ 0 + ns ≤ maxLen ∧ (0 + ns) * 80 ≤ 140737488355328 from ⟨by rw [HR.out.2.1, HR.out.2.2], fun u hu => wcs_cells hu, by unfold maxLen; omega, by omega⟩)
  clear hKS hrs hnum hsum hsr hzr hdr hcr
  try simp only [Act.put, List.setIfInBounds_toArray, List.set_cons_succ, List.set_cons_zero]
  apply wp_meetC (fun W b A4 k4 v30 => CrSt w W v (wkc keepA kn kc soft0 tear) ∧ Box W b 36 (kcs (oK conv soft seq size opn (.slice Ad nd cd) A4 ns k4 v.ill)) ∧ W.ownsRow (w.heap.size + 3) 74 66 (.slice A4 ns k4) ns (wcs d.safe) ∧ w.heap.size + 3 ≤ b ∧ b < W.heap.size)
  case h =>
    refine wp_region_held_drew (S := (fun w' => w'.cell? ⟨w.heap.size, 0, none⟩ = some (.int .i64 conv) ∧ w'.cell? ⟨w.heap.size, 1, none⟩ = some (.int .i64 soft) ∧ w'.cell? ⟨w.heap.size, 2, none⟩ = some (.int .i64 seq) ∧ w'.cell? ⟨w.heap.size, 3, none⟩ = some (.int .i64 size) ∧ w'.cell? ⟨w.heap.size, 4, none⟩ = some (.int .i64 opn) ∧
      w'.cell? ⟨w.heap.size, 6, none⟩ = some (.slice Ad nd cd) ∧ w'.cell? ⟨w.heap.size, 7, none⟩ = some (.slice As ns cs) ∧ w'.cell? ⟨w.heap.size, 12, none⟩ = some (.int .i64 v.ill))) (by kernel_rfl) ?_ (fun hHeld => ?_)
    · exact SO.out _ (Below.refl _ _).drew
    refine wpAnyH_take (i := 0) (v := ?v0) rfl (by kernel_rfl) (by kernel_rfl) (by kernel_rfl) (fun _ _ _ h => h) (Or.inl ⟨by rfl, ?hy0⟩) (by assumption) ?rest0
    case hy0 =>
      intro w hSw
      try dsimp only at hSw
      go_simp
      try with_reducible rfl
    try simp only [Act.put, List.setIfInBounds_toArray, List.set_cons_zero, List.set_cons_succ]
    refine wpAnyH_take (i := 1) (v := ?v1) rfl (by kernel_rfl) (by kernel_rfl) (by kernel_rfl) (fun _ _ _ h => h) (Or.inl ⟨by rfl, ?hy1⟩) (by assumption) ?rest1
    case hy1 =>
      intro w hSw
      try dsimp only at hSw
      go_simp
      try with_reducible rfl
    try simp only [Act.put, List.setIfInBounds_toArray, List.set_cons_zero, List.set_cons_succ]
    refine wpAnyH_take (i := 2) (v := ?v2) rfl (by kernel_rfl) (by kernel_rfl) (by kernel_rfl) (fun _ _ _ h => h) (Or.inl ⟨by rfl, ?hy2⟩) (by assumption) ?rest2
    case hy2 =>
      intro w hSw
      try dsimp only at hSw
      go_simp
      try with_reducible rfl
    try simp only [Act.put, List.setIfInBounds_toArray, List.set_cons_zero, List.set_cons_succ]
    refine wpAnyH_take (i := 3) (v := ?v3) rfl (by kernel_rfl) (by kernel_rfl) (by kernel_rfl) (fun _ _ _ h => h) (Or.inl ⟨by rfl, ?hy3⟩) (by assumption) ?rest3
    case hy3 =>
      intro w hSw
      try dsimp only at hSw
      go_simp
      try with_reducible rfl
    try simp only [Act.put, List.setIfInBounds_toArray, List.set_cons_zero, List.set_cons_succ]
    refine wpAnyH_take (i := 4) (v := ?v4) rfl (by kernel_rfl) (by kernel_rfl) (by kernel_rfl) (fun _ _ _ h => h) (Or.inl ⟨by rfl, ?hy4⟩) (by assumption) ?rest4
    case hy4 =>
      intro w hSw
      try dsimp only at hSw
      go_simp
      try with_reducible rfl
    try simp only [Act.put, List.setIfInBounds_toArray, List.set_cons_zero, List.set_cons_succ]
    refine wpAnyH_take (i := 5) (v := ?v5) rfl (by kernel_rfl) (by kernel_rfl) (by kernel_rfl) (fun _ _ _ h => h) (Or.inl ⟨by rfl, ?hy5⟩) (by assumption) ?rest5
    case hy5 =>
      intro w hSw
      try dsimp only at hSw
      go_simp
      try with_reducible rfl
    try simp only [Act.put, List.setIfInBounds_toArray, List.set_cons_zero, List.set_cons_succ]
    refine wpAnyH_take (i := 7) (v := ?v7) rfl (by kernel_rfl) (by kernel_rfl) (by kernel_rfl) (fun _ _ _ h => h) (Or.inl ⟨by rfl, ?hy7⟩) (by assumption) ?rest7
    case hy7 =>
      intro w hSw
      try dsimp only at hSw
      go_simp
      try with_reducible rfl
    try simp only [Act.put, List.setIfInBounds_toArray, List.set_cons_zero, List.set_cons_succ]
    refine wpAnyH_take (i := 8) (v := ?v8) rfl (by kernel_rfl) (by kernel_rfl) (by kernel_rfl) (fun _ _ _ h => h) (Or.inl ⟨by rfl, ?hy8⟩) (by assumption) ?rest8
    case hy8 =>
      intro w hSw
      try dsimp only at hSw
      go_simp
      try with_reducible rfl
    try simp only [Act.put, List.setIfInBounds_toArray, List.set_cons_zero, List.set_cons_succ]
    refine wpAnyH_ready (rs := [6, 11]) (by kernel_rfl) (by simp) ?_
    refine AllReadyH.cons (o := ⟨some 30, .buildSlice _ _ _, _, _, _, _⟩) rfl (fun K hK => ?_) (AllReadyH.cons (o := ⟨some 5, .alloc _, _, _, _, _⟩) rfl (fun K hK => ?_) AllReadyH.nil)
    · go_simp
      refine hK.out _ _ (SO.out _ (BD1.out _)) (fun hHeld => ?_)
      clear hK K
      try simp only [Act.put, List.setIfInBounds_toArray, List.set_cons_zero, List.set_cons_succ]
      refine wpAnyH_ready (rs := [9, 11]) (by kernel_rfl) (by simp) ?_
      refine AllReadyH.cons (o := ⟨some 33, .call _, _, _, _, _⟩) rfl (fun K hK => ?_) (AllReadyH.cons (o := ⟨some 5, .alloc _, _, _, _, _⟩) rfl (fun K hK => ?_) AllReadyH.nil)
      · refine step_append_rd ((w3.alloc (.cells #[] 74)).drew) (by rfl) _ _ _ (by rfl) w3.heap.size 74 _ 66 80 elemC (.slice (some ⟨w3.heap.size, 0, none⟩) 0 0) 0 [] (by rfl) OW1.out w3.heap.size As ns cs (wcs d.safe) (by rfl) RD2.out.1 (RD1.out _) RD2.out.2.1 RD2.out.2.2.1 RD2.out.2.2.2 (by simp) ?_
        intro v4 w4 hown4 hg4
        obtain ⟨A4, k4, rfl⟩ := own_slice hown4
        simp only [Nat.zero_add, List.nil_append] at hown4 ⊢
        have B4 : Below w3.heap.size w3 w4 := (BD1.out _).grown hg4 (by simp) (fun k hk => by simp [Value.ownBlock] at hk; omega)
        refine hK.out _ _ (SO.out _ (B4)) (fun hHeld => ?_)
        clear hK K
        try simp only [Act.put, List.setIfInBounds_toArray, List.set_cons_zero, List.set_cons_succ]
        refine wpAnyH_take (i := 10) (oi := ⟨some 34, .build _ _, _, _, _, _⟩) (v := ?v10a) rfl (by kernel_rfl) (by kernel_rfl) (by kernel_rfl) (fun _ _ _ h => h) (Or.inl ⟨by rfl, ?hy10a⟩) (by assumption) ?rest10a
        case hy10a =>
          intro w hSw
          try dsimp only at hSw
          go_simp
          try with_reducible rfl
        try simp only [Act.put, List.setIfInBounds_toArray, List.set_cons_zero, List.set_cons_succ]
        refine wpAnyH_ready (rs := [11]) (by kernel_rfl) (by simp) ?_
        refine AllReadyH.cons (o := ⟨some 5, .alloc _, _, _, _, _⟩) rfl (fun K hK => ?_) AllReadyH.nil
        go_simp
        refine hK.out _ _ (SO.out _ (below_alloc1 B4)) (fun hHeld => ?_)
        clear hK K
        try simp only [Act.put, List.setIfInBounds_toArray, List.set_cons_zero, List.set_cons_succ]
        have hx5 : Box (w4.alloc (.cells (kcs kd0).toArray 36)) w4.heap.size 36 (kcs kd0) := Box.new w4 _ _
        have ho5 : (w4.alloc (.cells (kcs kd0).toArray 36)).ownsRow w3.heap.size 74 66 (.slice A4 ns k4) ns (wcs d.safe) := by simpa using hown4.alloc (.cells (kcs kd0).toArray 36)
        refine wpAnyH_ready (rs := [12]) (by kernel_rfl) (by simp) ?_
        refine AllReadyH.cons (o := ⟨none, .store _ _ _, _, _, _, _⟩) rfl (fun K hK => ?_) AllReadyH.nil
        refine step_kd_store rfl _ _ rfl w4.heap.size (oK conv soft seq size opn (.slice Ad nd cd) A4 ns k4 v.ill) kd0 ⟨rfl, rfl, rfl, rfl⟩ (by rfl) (by rfl) hx5 ?_
        intro w6 hx6 hg6
        have B6 : Below w3.heap.size w3 w6 := below_stored (below_alloc1 B4) hg6 ((below_alloc1 B4)).size (by first | exact Nat.le_refl _ | (have := B4.size; simp <;> omega) | (simp <;> omega))
        have ho6 : w6.ownsRow w3.heap.size 74 66 (.slice A4 ns k4) ns (wcs d.safe) := own_same ho5 fun g hg => hg6.block g ((ho5).lt g hg).2 fun e => hx5.ne_row ho5 hg (by decide) (by injection e with e; exact e.symm)
        refine hK.out _ _ (SO.out _ (B6)) (fun hHeld => ?_)
        clear hK K
        try simp only [Act.put, List.setIfInBounds_toArray, List.set_cons_zero, List.set_cons_succ]
        refine wpAnyH_done (by kernel_rfl) ?_ _
        have hRR := And.intro (HL.out.on B6) (And.intro hx6 (And.intro (own_base0 ho6 (show w.heap.size + 3 ≤ w3.heap.size from HL.out.2.2.2.2)) (And.intro (show w.heap.size + 3 ≤ w4.heap.size by have := HL.out.2.2.2.2; have := B4.size; omega) hx6.lt)))
        clear hx6 hg6 ho6 hx5
        generalize w4.heap.size = b5 at hRR ⊢
        generalize Value.slice (some ⟨w3.heap.size, 0, none⟩) 0 0 = v30
        exact ⟨b5, A4, k4, v30, hRR, rfl⟩
      · go_simp
        refine hK.out _ _ (SO.out _ (BD2.out _ _)) (fun hHeld => ?_)
        clear hK K
        try simp only [Act.put, List.setIfInBounds_toArray, List.set_cons_zero, List.set_cons_succ]
        refine wpAnyH_ready (rs := [9]) (by kernel_rfl) (by simp) ?_
        refine AllReadyH.cons (o := ⟨some 33, .call _, _, _, _, _⟩) rfl (fun K hK => ?_) AllReadyH.nil
        refine step_append_rd _ (by rfl) _ _ _ (by rfl) w3.heap.size 74 _ 66 80 elemC (.slice (some ⟨w3.heap.size, 0, none⟩) 0 0) 0 [] (by rfl) (OW2.out _) w3.heap.size As ns cs (wcs d.safe) (by rfl) RD2.out.1 (RD3.out _ _) RD2.out.2.1 RD2.out.2.2.1 RD2.out.2.2.2 (by simp <;> omega) ?_
        intro v4 w4 hown4 hg4
        obtain ⟨A4, k4, rfl⟩ := own_slice hown4
        simp only [Nat.zero_add, List.nil_append] at hown4 ⊢
        have B4 : Below w3.heap.size w3 w4 := (BD2.out _ _).grown hg4 (by simp <;> omega) (fun k hk => by simp [Value.ownBlock] at hk; omega)
        have hx5 : Box w4 (w3.heap.size + 1) 36 (kcs kd0) := BX2.out _ hg4
        refine hK.out _ _ (SO.out _ (B4)) (fun hHeld => ?_)
        clear hK K
        try simp only [Act.put, List.setIfInBounds_toArray, List.set_cons_zero, List.set_cons_succ]
        refine wpAnyH_take (i := 10) (oi := ⟨some 34, .build _ _, _, _, _, _⟩) (v := ?v10b) rfl (by kernel_rfl) (by kernel_rfl) (by kernel_rfl) (fun _ _ _ h => h) (Or.inl ⟨by rfl, ?hy10b⟩) (by assumption) ?rest10b
        case hy10b =>
          intro w hSw
          try dsimp only at hSw
          go_simp
          try with_reducible rfl
        try simp only [Act.put, List.setIfInBounds_toArray, List.set_cons_zero, List.set_cons_succ]
        have hx5' : Box w4.drew (w3.heap.size + 1) 36 (kcs kd0) := hx5
        refine wpAnyH_ready (rs := [12]) (by kernel_rfl) (by simp) ?_
        refine AllReadyH.cons (o := ⟨none, .store _ _ _, _, _, _, _⟩) rfl (fun K hK => ?_) AllReadyH.nil
        refine step_kd_store rfl _ _ rfl (w3.heap.size + 1) (oK conv soft seq size opn (.slice Ad nd cd) A4 ns k4 v.ill) kd0 ⟨rfl, rfl, rfl, rfl⟩ (by rfl) (by rfl) hx5 ?_
        intro w6 hx6 hg6
        have B6 : Below w3.heap.size w3 w6 := below_stored B4 hg6 (B4).size (by first | exact Nat.le_refl _ | (have := B4.size; simp <;> omega) | (simp <;> omega))
        have ho6 : w6.ownsRow w3.heap.size 74 66 (.slice A4 ns k4) ns (wcs d.safe) := own_same hown4 fun g hg => hg6.block g ((hown4).lt g hg).2 fun e => hx5.ne_row hown4 hg (by decide) (by injection e with e; exact e.symm)
        refine hK.out _ _ (SO.out _ (B6)) (fun hHeld => ?_)
        clear hK K
        try simp only [Act.put, List.setIfInBounds_toArray, List.set_cons_zero, List.set_cons_succ]
        refine wpAnyH_done (by kernel_rfl) ?_ _
        have hRR := And.intro (HL.out.on B6) (And.intro hx6 (And.intro (own_base0 ho6 (show w.heap.size + 3 ≤ w3.heap.size from HL.out.2.2.2.2)) (And.intro (show w.heap.size + 3 ≤ (w3.heap.size + 1) by have := HL.out.2.2.2.2; have := B4.size; omega) hx6.lt)))
        clear hx6 hg6 ho6 hx5
        generalize Value.slice (some ⟨w3.heap.size, 0, none⟩) 0 0 = v30
        exact ⟨(w3.heap.size + 1), A4, k4, v30, hRR, rfl⟩
    · go_simp
      refine hK.out _ _ (SO.out _ (BD1.out _)) (fun hHeld => ?_)
      clear hK K
      try simp only [Act.put, List.setIfInBounds_toArray, List.set_cons_zero, List.set_cons_succ]
      refine wpAnyH_ready (rs := [6]) (by kernel_rfl) (by simp) ?_
      refine AllReadyH.cons (o := ⟨some 30, .buildSlice _ _ _, _, _, _, _⟩) rfl (fun K hK => ?_) AllReadyH.nil
      go_simp
      refine hK.out _ _ (SO.out _ (BD2.out _ _)) (fun hHeld => ?_)
      clear hK K
      try simp only [Act.put, List.setIfInBounds_toArray, List.set_cons_zero, List.set_cons_succ]
      refine wpAnyH_ready (rs := [9]) (by kernel_rfl) (by simp) ?_
      refine AllReadyH.cons (o := ⟨some 33, .call _, _, _, _, _⟩) rfl (fun K hK => ?_) AllReadyH.nil
      refine step_append_rd _ (by rfl) _ _ _ (by rfl) w3.heap.size 74 _ 66 80 elemC (.slice (some ⟨w3.heap.size + 1, 0, none⟩) 0 0) 0 [] (by rfl) (OW3.out _) w3.heap.size As ns cs (wcs d.safe) (by rfl) RD2.out.1 (RD3.out _ _) RD2.out.2.1 RD2.out.2.2.1 RD2.out.2.2.2 (by simp <;> omega) ?_
      intro v4 w4 hown4 hg4
      obtain ⟨A4, k4, rfl⟩ := own_slice hown4
      simp only [Nat.zero_add, List.nil_append] at hown4 ⊢
      have B4 : Below w3.heap.size w3 w4 := (BD2.out _ _).grown hg4 (by simp <;> omega) (fun k hk => by simp [Value.ownBlock] at hk; omega)
      have hx5 : Box w4 w3.heap.size 36 (kcs kd0) := BX3.out _ hg4
      refine hK.out _ _ (SO.out _ (B4)) (fun hHeld => ?_)
      clear hK K
      try simp only [Act.put, List.setIfInBounds_toArray, List.set_cons_zero, List.set_cons_succ]
      refine wpAnyH_take (i := 10) (oi := ⟨some 34, .build _ _, _, _, _, _⟩) (v := ?v10c) rfl (by kernel_rfl) (by kernel_rfl) (by kernel_rfl) (fun _ _ _ h => h) (Or.inl ⟨by rfl, ?hy10c⟩) (by assumption) ?rest10c
      case hy10c =>
        intro w hSw
        try dsimp only at hSw
        go_simp
        try with_reducible rfl
      try simp only [Act.put, List.setIfInBounds_toArray, List.set_cons_zero, List.set_cons_succ]
      refine wpAnyH_ready (rs := [12]) (by kernel_rfl) (by simp) ?_
      refine AllReadyH.cons (o := ⟨none, .store _ _ _, _, _, _, _⟩) rfl (fun K hK => ?_) AllReadyH.nil
      refine step_kd_store rfl _ _ rfl w3.heap.size (oK conv soft seq size opn (.slice Ad nd cd) A4 ns k4 v.ill) kd0 ⟨rfl, rfl, rfl, rfl⟩ (by rfl) (by rfl) hx5 ?_
      intro w6 hx6 hg6
      have B6 : Below w3.heap.size w3 w6 := below_stored B4 hg6 (B4).size (by first | exact Nat.le_refl _ | (have := B4.size; simp <;> omega) | (simp <;> omega))
      have ho6 : w6.ownsRow w3.heap.size 74 66 (.slice A4 ns k4) ns (wcs d.safe) := own_same hown4 fun g hg => hg6.block g ((hown4).lt g hg).2 fun e => hx5.ne_row hown4 hg (by decide) (by injection e with e; exact e.symm)
      refine hK.out _ _ (SO.out _ (B6)) (fun hHeld => ?_)
      clear hK K
      try simp only [Act.put, List.setIfInBounds_toArray, List.set_cons_zero, List.set_cons_succ]
      refine wpAnyH_done (by kernel_rfl) ?_ _
      have hRR := And.intro (HL.out.on B6) (And.intro hx6 (And.intro (own_base0 ho6 (show w.heap.size + 3 ≤ w3.heap.size from HL.out.2.2.2.2)) (And.intro (show w.heap.size + 3 ≤ w3.heap.size by have := HL.out.2.2.2.2; have := B4.size; omega) hx6.lt)))
      clear hx6 hg6 ho6 hx5
      generalize Value.slice (some ⟨w3.heap.size + 1, 0, none⟩) 0 0 = v30
      exact ⟨w3.heap.size, A4, k4, v30, hRR, rfl⟩
  case h2 =>
    intro w4 b5 A4 k4 v30 hR
    obtain ⟨hst, hbx, hown, hb5, hb5l⟩ := hR
    clear c0 c1 c2 c3 c4 c6 c7 c12 HL SO OW1 OW2 OW3 BD1 BD2 BX2 BX3 RD1 RD2 RD3 HR hsn
    have hsoft0 : w4.cell? ⟨w.heap.size + 1, 1, none⟩ = some (.int .u64 soft0) := hst.2.1.cell 1
    have HS4 := Lib.hid (And.intro hst (And.intro hbx (And.intro hown (And.intro hb5 hb5l))))
    clear hst hbx hown hb5 hb5l
    go_wp2_with (first
      | ((with_reducible refine wpList_seen_alloc (o := ⟨some 8, .alloc _, _, _, _, _⟩) rfl rfl ?_); intro w5 x5 hB5 hs5)
      | fail)
    have hC5 : CrL w w5 v (wkc keepA kn kc soft0 tear) (rK conv soft seq size opn (.slice Ad nd cd) v.ill) b5 w4.heap.size (List.replicate 64 0) d.safe A4 ns k4 :=
      ⟨HS4.out.1.on hB5, HS4.out.2.1.on hB5, x5, own_same HS4.out.2.2.1 fun g hg => hB5.block g (HS4.out.2.2.1.lt g hg).2, HS4.out.2.2.2.1, HS4.out.1.2.2.2.2, hsl⟩
    clear x5 hB5 hs5 HS4 hsoft0
    generalize w4.heap.size = b8 at hC5 ⊢
    obtain ⟨m, hm, hszm⟩ := big_size (P := Try.prog) (t := 74) (s := 66) (by kernel_rfl)
    have hm0 : ¬ m = 0 := by omega
    have hm1 : ¬ 16777216 < m := by omega
    have HM := Lib.hid hm
    clear hm
    have HS0 := Lib.hid (sAt_ok (conv := conv) (keep := keep) h0 hsw hcw)
    have HK := Lib.hid (And.intro hkr (And.intro hkl (And.intro hkc (And.intro hkm hk64))))
    have HD := Lib.hid (And.intro hsw hcw)
    have HV := Lib.hid (And.intro q0 (And.intro q1 (And.intro q2 (And.intro q3 q4))))
    have HV2 := Lib.hid (And.intro hz (And.intro hd (And.intro hs hc)))
    have HN := Lib.hid (And.intro hzl (And.intro hzn (And.intro hdl (And.intro hdn (And.intro hsl (And.intro hcl hN))))))
    have HP := Lib.hid hpl
    have HO := Lib.hid (And.intro hok (And.intro h0 ht))
    clear hkr hkl hkc hkm hk64 hsw hcw q0 q1 q2 q3 q4 hz hd hs hc hzl hzn hdl hdn hsl hcl hN hpl hok h0 ht hns hmk hszk hmk0
    go_loopw [6, 7, 9] (fun bt so i wr => ∃ k : Nat, k ≤ nc ∧ i = .int .i64 k ∧ bt = .int .u64 (sAt conv keep soft0 d k).bits ∧ so = .int .i64 (sAt conv keep soft0 d k).soft ∧ ∃ A n c, CrL w wr v (wkc keepA kn kc soft0 tear) (rK conv soft seq size opn (.slice Ad nd cd) v.ill) b5 b8 (sAt conv keep soft0 d k).seen (SAt conv keep soft0 tear d k) A n c) (fun _ _ i _ => nc - (intOf i).toNat)
    case atStart =>
      refine ⟨0, by omega, rfl, rfl, rfl, A4, ns, k4, ?_⟩
      rw [SAt_zero]
      exact hC5
    case round =>
      obtain ⟨k, hk, rfl, rfl, rfl, A, n, c, hL⟩ := hrel
      clear hC5
      by_cases hlt : k < nc
      · have hkl : k < d.cached.length := by rw [HN.out.2.2.2.2.2.1]; exact hlt
        have hck := HS0.out k (by omega)
        have hlk : d.cached[k]? = some (d.cached.getD k c00) := by simp [hkl]
        have HX := Lib.hid (And.intro (sAt_succ (conv := conv) (keep := keep) (soft0 := soft0) hlk) (SAt_succ (conv := conv) (keep := keep) (soft0 := soft0) (tear := tear) hlk))
        have hS : SAt conv keep soft0 tear d k = (sAt conv keep soft0 d k).safe := SAt_lt hkl
        rw [hS] at hL
        clear hS
        obtain ⟨g, rfl, hgl, hrg⟩ := (HQ.out.2.1.row.below hL.st.2.2.2.1) (wcs_ne HD.out.2 (by rintro h; rw [h] at hkl; simp at hkl))
        have hpl := HD.out.2 _ (List.mem_of_getElem? hlk)
        have hzr2 := HP.out _ (List.mem_of_getElem? hlk)
        have hwl := wc_length hpl
        have hld := big_load0 Try.prog g (k * m) (wc (d.cached.getD k c00)) m (by rw [hwl, HM.out]) wr (by rw [HM.out]; exact row_whole hrg HD.out.2 hlk)
        generalize d.cached.getD k c00 = c0 at hlk HX hpl hzr2 hwl hld
        generalize sAt conv keep soft0 d k = s at hL hck HX ⊢
        obtain ⟨bt, so, sn, sf⟩ := s
        obtain ⟨z, o, p⟩ := c0
        have d8 : wr.cell? ⟨w.heap.size, 8, none⟩ = some (.slice (some ⟨g, 0, none⟩) nc cc) := by
          have := hL.st.1.kdv.2.2.2
          rw [HV2.out.2.2.2] at this
          exact this
        have hfold := fold_box Try.zeroCells74 66 (wc (z, o, p)) m (by rw [hwl, HM.out])
        have hlm : (wc (z, o, p)).length = m := by rw [hwl, HM.out]
        have hki : (k : Int) < (nc : Int) := by omega
        have hsn : n = sf.length := hL.len.symm
        have hnb : n ≤ 2000 := by have := HN.out.2.2.2.2.2.2; have := HN.out.2.2.2.2.1; have := HQ.out.2.2.2.2.1; have := HN.out.2.2.2.2.2.1; have h9 := hck.safe; dsimp only at *; omega
        have HL := Lib.hid hL
        have HCK := Lib.hid hck
        have hso := hck.soft
        have hbt := hck.bits
        simp only at hso hbt
        have HW := Lib.hid (And.intro hrg (And.intro hlk (And.intro hkl hnb)))
        have HLT := Lib.hid hlt
        have hnc9 : nc ≤ 1000 := by have := HN.out.2.2.2.2.2.2; have := HQ.out.2.2.2.2.1; have := HN.out.2.2.2.2.2.1; omega
        clear hL hck hrg hlk hkl hnb
        clear hsn
        have hw1 := IntWalk.wrap64_in (so + 1) (by omega)
        by_cases hz : z < conv
        · by_cases hm : so % 64 = 0
          · have hmt : (so % 64 == 0) = true := by rw [hm]; rfl
            have hb0 := HO.out.2.1
            by_cases hlf : soft0 % 2 = 1
            · have hlt2 : (soft0 % 2 == 1) = true := by rw [hlf]; rfl
              have HZ := Lib.hid (And.intro hm hlf)
              clear hm hlf
              as_aux_lemma =>
                go_wp2_with (first
                  | ((with_reducible refine wpList_cell_alloc (o := ⟨some 10, .alloc _, _, _, _, _⟩) rfl rfl ?_); intro w6 x6 hB6 hs6; clear hs6)
                  | ((with_reducible refine wpList_cell_store (o := ⟨none, .store _ _ _, _, _, _, _⟩) rfl _ _ rfl wr.heap.size (z, o, p) c00 hpl rfl rfl rfl x6 ?_); intro w7 x7 hg7 hs7; clear hs7; have hB7 : Below wr.heap.size wr w7 := below_stored hB6 hg7 hB6.size (Nat.le_refl _); have L7 := HL.out.on hB7; have z7 : w7.cell? ⟨wr.heap.size, 0, none⟩ = some (.int .i64 z) := x7.cell 0; have z8 : w7.cell? ⟨wr.heap.size, 1, none⟩ = some (.int .i64 o) := x7.cell 1; have e0 : w7.cell? ⟨w.heap.size, 0, none⟩ = some (.int .i64 conv) := (by rw [← HV.out.1]; exact L7.st.1.kd.1); have e7 : w7.cell? ⟨w.heap.size, 7, none⟩ = some (.slice As ns cs) := (by rw [← HV2.out.2.2.1]; exact L7.st.1.kdv.2.2.1); have e8 : w7.cell? ⟨w.heap.size, 8, none⟩ = some (.slice (some ⟨g, 0, none⟩) nc cc) := (by rw [← HV2.out.2.2.2]; exact L7.st.1.kdv.2.2.2); have f0 : w7.cell? ⟨w.heap.size + 1, 0, none⟩ = some (.slice keepA kn kc) := L7.st.2.1.cell 0; have f1 : w7.cell? ⟨w.heap.size + 1, 1, none⟩ = some (.int .u64 soft0) := L7.st.2.1.cell 1; have f2 : w7.cell? ⟨w.heap.size + 1, 2, none⟩ = some (.int .i64 tear) := L7.st.2.1.cell 2; have s7 : w7.cell? ⟨b5, 7, none⟩ = some (.slice A n c) := L7.bx.cell 7; have hldc := big_load0 Try.prog wr.heap.size 0 (wc (z, o, p)) m (by rw [hwl, HM.out]) w7 x7.range0; have HL7 := Lib.hid L7; have HX7 := Lib.hid x7; clear x6 hB6 hg7 hB7 d8 hld; have x7s := L7.sn; clear L7 x7)
                  | (at_builtin; go_loud (refine wpList_append_new _ rfl _ _ _ rfl (w.heap.size + 3) 74 _ 66 80 elemC (.slice A n c) _ _ rfl (wc (z, o, p)) rfl HL7.out.own hwl (fun u hu => wc_cells hu) (by have := HW.out.2.2.2; simp only [maxLen]; omega) (by have := HW.out.2.2.2; omega) HL7.out.st.2.2.2.2 ?_); intro v1 w9 hown9 hg9; obtain ⟨A1, c1, rfl⟩ := own_slice hown9; have x9 := HL7.out.five hg9; have HO9 := Lib.hid (And.intro hown9 hg9); clear hown9 hg9 s7)
                  | ((with_reducible refine wpList_box_slice (o := ⟨none, .store _ _ _, _, _, _, _⟩) rfl _ _ _ rfl b5 7 _ _ A1 _ c1 _ rfl rfl x9 rfl size_rcells ?_); intro w10 hw10)
                  | fail)
                have hstep : ckStep conv keep soft0 ⟨bt, so, sn, sf⟩ (z, o, p) = ⟨soft0 / 2, so + 1, sn, sf ++ [(z, o, p)]⟩ := by
                  unfold ckStep ckLeft
                  simp [hz, HZ.out.1, HZ.out.2]
                have hno : ¬ (k + 1 = d.cached.length ∧ ckLeft conv keep soft0 ⟨bt, so, sn, sf⟩ (z, o, p) = false ∧ ckNext conv keep ⟨bt, so, sn, sf⟩ (z, o, p) = true ∧ 0 < tear) := by
                  unfold ckLeft
                  simp [hz, HZ.out.1, HZ.out.2]
                go_roundw
                case rel =>
                  refine ⟨k + 1, HLT.out, by go_num, ?_, ?_, A1, n + 1, c1, ?_⟩
                  · rw [HX.out.1, hstep]
                  · rw [HX.out.1, hstep]
                  · rw [HX.out.2, hstep, if_neg hno, HX.out.1, hstep]
                    exact HL7.out.more1 HO9.out.2 HO9.out.1
                case measure => have := HLT.out; first | (simp [intOf]; done) | (simp [intOf]; omega)
            · have hlt2 : (soft0 % 2 == 1) = false := by simpa using hlf
              have HZ := Lib.hid (And.intro hm hlf)
              clear hm hlf
              by_cases hlast : k + 1 = nc
              · subst hlast
                by_cases ht0 : tear ≤ 0
                · have HT0 := Lib.hid ht0
                  as_aux_lemma =>
                    go_wp2_with (first
                      | ((with_reducible refine wpList_cell_alloc (o := ⟨some 10, .alloc _, _, _, _, _⟩) rfl rfl ?_); intro w6 x6 hB6 hs6; clear hs6)
                      | ((with_reducible refine wpList_cell_store (o := ⟨none, .store _ _ _, _, _, _, _⟩) rfl _ _ rfl wr.heap.size (z, o, p) c00 hpl rfl rfl rfl x6 ?_); intro w7 x7 hg7 hs7; clear hs7; have hB7 : Below wr.heap.size wr w7 := below_stored hB6 hg7 hB6.size (Nat.le_refl _); have L7 := HL.out.on hB7; have z7 : w7.cell? ⟨wr.heap.size, 0, none⟩ = some (.int .i64 z) := x7.cell 0; have z8 : w7.cell? ⟨wr.heap.size, 1, none⟩ = some (.int .i64 o) := x7.cell 1; have e0 : w7.cell? ⟨w.heap.size, 0, none⟩ = some (.int .i64 conv) := (by rw [← HV.out.1]; exact L7.st.1.kd.1); have e7 : w7.cell? ⟨w.heap.size, 7, none⟩ = some (.slice As ns cs) := (by rw [← HV2.out.2.2.1]; exact L7.st.1.kdv.2.2.1); have e8 : w7.cell? ⟨w.heap.size, 8, none⟩ = some (.slice (some ⟨g, 0, none⟩) (k + 1) cc) := (by rw [← HV2.out.2.2.2]; exact L7.st.1.kdv.2.2.2); have f0 : w7.cell? ⟨w.heap.size + 1, 0, none⟩ = some (.slice keepA kn kc) := L7.st.2.1.cell 0; have f1 : w7.cell? ⟨w.heap.size + 1, 1, none⟩ = some (.int .u64 soft0) := L7.st.2.1.cell 1; have f2 : w7.cell? ⟨w.heap.size + 1, 2, none⟩ = some (.int .i64 tear) := L7.st.2.1.cell 2; have s7 : w7.cell? ⟨b5, 7, none⟩ = some (.slice A n c) := L7.bx.cell 7; have hldc := big_load0 Try.prog wr.heap.size 0 (wc (z, o, p)) m (by rw [hwl, HM.out]) w7 x7.range0; have HL7 := Lib.hid L7; have HX7 := Lib.hid x7; clear x6 hB6 hg7 hB7 d8 hld; have x7s := L7.sn; clear L7 x7)
                      | fail)
                    have hstep : ckStep conv keep soft0 ⟨bt, so, sn, sf⟩ (z, o, p) = ⟨soft0 / 2, so + 1, sn, sf⟩ := by
                      unfold ckStep ckLeft
                      simp [hz, HZ.out.1, HZ.out.2]
                    have hno : ¬ (k + 1 = d.cached.length ∧ ckLeft conv keep soft0 ⟨bt, so, sn, sf⟩ (z, o, p) = false ∧ ckNext conv keep ⟨bt, so, sn, sf⟩ (z, o, p) = true ∧ 0 < tear) := by
                      have := HT0.out
                      omega
                    go_roundw
                    case rel =>
                      refine ⟨k + 1, HLT.out, by go_num, ?_, ?_, A, n, c, ?_⟩
                      · rw [HX.out.1, hstep]
                      · rw [HX.out.1, hstep]
                      · rw [HX.out.2, hstep, if_neg hno, HX.out.1, hstep]
                        exact HL7.out
                    case measure => have := HLT.out; first | (simp [intOf]; done) | (simp [intOf]; omega)
                · have ht1 : 0 < tear := by omega
                  have HT1 := Lib.hid ht1
                  as_aux_lemma =>
                    go_wp2_with (first
                      | ((with_reducible refine wpList_cell_alloc (o := ⟨some 10, .alloc _, _, _, _, _⟩) rfl rfl ?_); intro w6 x6 hB6 hs6; clear hs6)
                      | ((with_reducible refine wpList_cell_store (o := ⟨none, .store _ _ _, _, _, _, _⟩) rfl _ _ rfl wr.heap.size (z, o, p) c00 hpl rfl rfl rfl x6 ?_); intro w7 x7 hg7 hs7; clear hs7; have hB7 : Below wr.heap.size wr w7 := below_stored hB6 hg7 hB6.size (Nat.le_refl _); have L7 := HL.out.on hB7; have z7 : w7.cell? ⟨wr.heap.size, 0, none⟩ = some (.int .i64 z) := x7.cell 0; have z8 : w7.cell? ⟨wr.heap.size, 1, none⟩ = some (.int .i64 o) := x7.cell 1; have e0 : w7.cell? ⟨w.heap.size, 0, none⟩ = some (.int .i64 conv) := (by rw [← HV.out.1]; exact L7.st.1.kd.1); have e7 : w7.cell? ⟨w.heap.size, 7, none⟩ = some (.slice As ns cs) := (by rw [← HV2.out.2.2.1]; exact L7.st.1.kdv.2.2.1); have e8 : w7.cell? ⟨w.heap.size, 8, none⟩ = some (.slice (some ⟨g, 0, none⟩) (k + 1) cc) := (by rw [← HV2.out.2.2.2]; exact L7.st.1.kdv.2.2.2); have f0 : w7.cell? ⟨w.heap.size + 1, 0, none⟩ = some (.slice keepA kn kc) := L7.st.2.1.cell 0; have f1 : w7.cell? ⟨w.heap.size + 1, 1, none⟩ = some (.int .u64 soft0) := L7.st.2.1.cell 1; have f2 : w7.cell? ⟨w.heap.size + 1, 2, none⟩ = some (.int .i64 tear) := L7.st.2.1.cell 2; have s7 : w7.cell? ⟨b5, 7, none⟩ = some (.slice A n c) := L7.bx.cell 7; have hldc := big_load0 Try.prog wr.heap.size 0 (wc (z, o, p)) m (by rw [hwl, HM.out]) w7 x7.range0; have HL7 := Lib.hid L7; have HX7 := Lib.hid x7; clear x6 hB6 hg7 hB7 d8 hld; have x7s := L7.sn; clear L7 x7)
                      | (with_reducible refine wpList_build_zero _ (o := ⟨_, .build _ _, _, _, _, _⟩) rfl _ rfl (bs z64) pg_build ?_)
                      | ((with_reducible refine wpList_pg_alloc (o := ⟨some 15, .alloc _, _, _, _, _⟩) rfl rfl ?_); intro w15 x15 hB15 hs15; clear hs15)
                      | ((with_reducible refine wpList_pg_store (o := ⟨none, .store _ _ _, _, _, _, _⟩) rfl _ _ rfl w7.heap.size z64 pg0 rfl rfl rfl rfl x15 ?_); intro w16 x16 hg16 hs16; clear hs16; have HB16 := Lib.hid (below_stored hB15 hg16 hB15.size (Nat.le_refl _)); have HX16 := Lib.hid x16; clear x15 hB15 hg16 x16 z7 z8 e0 e7 e8 f0 f1 f2 s7 hldc; have L16 := HL7.out.on HB16.out; have X16 := HX7.out.on HB16.out; have z7 : w16.cell? ⟨wr.heap.size, 0, none⟩ = some (.int .i64 z) := X16.cell 0; have z8 : w16.cell? ⟨wr.heap.size, 1, none⟩ = some (.int .i64 o) := X16.cell 1; have e0 : w16.cell? ⟨w.heap.size, 0, none⟩ = some (.int .i64 conv) := (by rw [← HV.out.1]; exact L16.st.1.kd.1); have e7 : w16.cell? ⟨w.heap.size, 7, none⟩ = some (.slice As ns cs) := (by rw [← HV2.out.2.2.1]; exact L16.st.1.kdv.2.2.1); have e8 : w16.cell? ⟨w.heap.size, 8, none⟩ = some (.slice (some ⟨g, 0, none⟩) (k + 1) cc) := (by rw [← HV2.out.2.2.2]; exact L16.st.1.kdv.2.2.2); have f0 : w16.cell? ⟨w.heap.size + 1, 0, none⟩ = some (.slice keepA kn kc) := L16.st.2.1.cell 0; have f1 : w16.cell? ⟨w.heap.size + 1, 1, none⟩ = some (.int .u64 soft0) := L16.st.2.1.cell 1; have f2 : w16.cell? ⟨w.heap.size + 1, 2, none⟩ = some (.int .i64 tear) := L16.st.2.1.cell 2; have s7 : w16.cell? ⟨b5, 7, none⟩ = some (.slice A n c) := L16.bx.cell 7; have hldc := big_load0 Try.prog wr.heap.size 0 (wc (z, o, p)) m (by rw [hwl, HM.out]) w16 X16.range0; clear L16 X16)
                      | fail)
                    have HSTEP := Lib.hid (show ckStep conv keep soft0 ⟨bt, so, sn, sf⟩ (z, o, p) = ⟨soft0 / 2, so + 1, sn, sf⟩ by
                      unfold ckStep ckLeft
                      simp [hz, HZ.out.1, HZ.out.2])
                    have HYES := Lib.hid (show k + 1 = d.cached.length ∧ ckLeft conv keep soft0 ⟨bt, so, sn, sf⟩ (z, o, p) = false ∧ ckNext conv keep ⟨bt, so, sn, sf⟩ (z, o, p) = true ∧ 0 < tear by
                      refine ⟨HN.out.2.2.2.2.2.1.symm, ?_, ?_, HT1.out⟩
                      · unfold ckLeft; simp [hz, HZ.out.1, HZ.out.2]
                      · unfold ckNext; simp [hz])
                    have HB0 := Lib.hid (show (∀ x, fnd d.safe (z, o) = some x → x.length = 64) ∧ (∀ x, fnd sf (z, o) = some x → x.length = 64) ∧ tornK conv tear d.safe sf (z, o, p) = (z, o, mix p (((fnd sf (z, o)).or (fnd d.safe (z, o))).getD z64) (min tear 64).toNat) from
                      ⟨fun x h => fnd_wok HD.out.1 h, fun x h => fnd_wok HCK.out.wok h, by unfold tornK; dsimp only; rw [if_pos hz]; rfl⟩)
                    refine (find_any As ns cs d.safe (z, o) _ HN.out.2.2.2.2.1 (by have := HN.out.2.2.2.2.2.2; have := HN.out.2.2.2.2.1; have := HQ.out.2.2.2.2.1; omega) HD.out.1 ((HQ.out.1.row.below (HL7.out.on HB16.out).st.2.2.2.1).more (by have := (HL7.out.on HB16.out).st.2.2.2.1.size; omega))).mono ?_
                    rintro e w17 ⟨rfl, hb17⟩
                    have HB17 := Lib.hid (bthen HB16.out hb17)
                    have HX17 := Lib.hid (HX16.out.on hb17)
                    clear hb17 HX16 HB16 z7 z8 e0 e7 e8 f0 f1 f2 s7 hldc
                    have L17 := HL7.out.on HB17.out
                    have X17 := HX7.out.on HB17.out
                    (have z7 : w17.cell? ⟨wr.heap.size, 0, none⟩ = some (.int .i64 z) := X17.cell 0; have z8 : w17.cell? ⟨wr.heap.size, 1, none⟩ = some (.int .i64 o) := X17.cell 1; have e0 : w17.cell? ⟨w.heap.size, 0, none⟩ = some (.int .i64 conv) := (by rw [← HV.out.1]; exact L17.st.1.kd.1); have e7 : w17.cell? ⟨w.heap.size, 7, none⟩ = some (.slice As ns cs) := (by rw [← HV2.out.2.2.1]; exact L17.st.1.kdv.2.2.1); have e8 : w17.cell? ⟨w.heap.size, 8, none⟩ = some (.slice (some ⟨g, 0, none⟩) (k + 1) cc) := (by rw [← HV2.out.2.2.2]; exact L17.st.1.kdv.2.2.2); have f0 : w17.cell? ⟨w.heap.size + 1, 0, none⟩ = some (.slice keepA kn kc) := L17.st.2.1.cell 0; have f1 : w17.cell? ⟨w.heap.size + 1, 1, none⟩ = some (.int .u64 soft0) := L17.st.2.1.cell 1; have f2 : w17.cell? ⟨w.heap.size + 1, 2, none⟩ = some (.int .i64 tear) := L17.st.2.1.cell 2; have s7 : w17.cell? ⟨b5, 7, none⟩ = some (.slice A n c) := L17.bx.cell 7; have hldc := big_load0 Try.prog wr.heap.size 0 (wc (z, o, p)) m (by rw [hwl, HM.out]) w17 X17.range0)
                    clear L17 X17
                    generalize fnd d.safe (z, o) = F1 at HB0 ⊢
                    have HP1 : Hid ((F1.getD z64).length = 64) := Lib.hid (by
                      cases F1 with
                      | none => rfl
                      | some x => exact HB0.out.1 x rfl)
                    obtain ⟨P1, HPE⟩ : ∃ x, Hid (F1.getD z64 = x) := ⟨_, Lib.hid rfl⟩
                    rw [HPE.out] at HP1 ⊢
                    go_wp2_with (first
                      | ((with_reducible refine wpList_pg_store (o := ⟨none, .store _ _ _, _, _, _, _⟩) rfl _ _ rfl w7.heap.size P1 z64 HP1.out rfl rfl rfl HX17.out ?_); intro w18 x18 hg18 hs18; clear hs18; have HB18 := Lib.hid (below_stored HB17.out hg18 HB17.out.size (Nat.le_refl _)); have HX18 := Lib.hid x18; clear hg18 x18 z7 z8 e0 e7 e8 f0 f1 f2 s7 hldc; have L18 := HL7.out.on HB18.out; have X18 := HX7.out.on HB18.out; have z7 : w18.cell? ⟨wr.heap.size, 0, none⟩ = some (.int .i64 z) := X18.cell 0; have z8 : w18.cell? ⟨wr.heap.size, 1, none⟩ = some (.int .i64 o) := X18.cell 1; have e0 : w18.cell? ⟨w.heap.size, 0, none⟩ = some (.int .i64 conv) := (by rw [← HV.out.1]; exact L18.st.1.kd.1); have e7 : w18.cell? ⟨w.heap.size, 7, none⟩ = some (.slice As ns cs) := (by rw [← HV2.out.2.2.1]; exact L18.st.1.kdv.2.2.1); have e8 : w18.cell? ⟨w.heap.size, 8, none⟩ = some (.slice (some ⟨g, 0, none⟩) (k + 1) cc) := (by rw [← HV2.out.2.2.2]; exact L18.st.1.kdv.2.2.2); have f0 : w18.cell? ⟨w.heap.size + 1, 0, none⟩ = some (.slice keepA kn kc) := L18.st.2.1.cell 0; have f1 : w18.cell? ⟨w.heap.size + 1, 1, none⟩ = some (.int .u64 soft0) := L18.st.2.1.cell 1; have f2 : w18.cell? ⟨w.heap.size + 1, 2, none⟩ = some (.int .i64 tear) := L18.st.2.1.cell 2; have s7 : w18.cell? ⟨b5, 7, none⟩ = some (.slice A n c) := L18.bx.cell 7; have hldc := big_load0 Try.prog wr.heap.size 0 (wc (z, o, p)) m (by rw [hwl, HM.out]) w18 X18.range0; clear L18 X18)
                      | fail)
                    refine (find_any A n c sf (z, o) _ HL7.out.len (by have := HW.out.2.2.2; omega) HCK.out.wok (Row.own (HL7.out.on HB18.out).own)).mono ?_
                    rintro e w19 ⟨rfl, hb19⟩
                    have HB19 := Lib.hid (bthen HB18.out hb19)
                    have HX19 := Lib.hid (HX18.out.on hb19)
                    clear hb19 HX18 HX17 HB17 HB18 z7 z8 e0 e7 e8 f0 f1 f2 s7 hldc
                    have L19 := HL7.out.on HB19.out
                    have X19 := HX7.out.on HB19.out
                    (have z7 : w19.cell? ⟨wr.heap.size, 0, none⟩ = some (.int .i64 z) := X19.cell 0; have z8 : w19.cell? ⟨wr.heap.size, 1, none⟩ = some (.int .i64 o) := X19.cell 1; have e0 : w19.cell? ⟨w.heap.size, 0, none⟩ = some (.int .i64 conv) := (by rw [← HV.out.1]; exact L19.st.1.kd.1); have e7 : w19.cell? ⟨w.heap.size, 7, none⟩ = some (.slice As ns cs) := (by rw [← HV2.out.2.2.1]; exact L19.st.1.kdv.2.2.1); have e8 : w19.cell? ⟨w.heap.size, 8, none⟩ = some (.slice (some ⟨g, 0, none⟩) (k + 1) cc) := (by rw [← HV2.out.2.2.2]; exact L19.st.1.kdv.2.2.2); have f0 : w19.cell? ⟨w.heap.size + 1, 0, none⟩ = some (.slice keepA kn kc) := L19.st.2.1.cell 0; have f1 : w19.cell? ⟨w.heap.size + 1, 1, none⟩ = some (.int .u64 soft0) := L19.st.2.1.cell 1; have f2 : w19.cell? ⟨w.heap.size + 1, 2, none⟩ = some (.int .i64 tear) := L19.st.2.1.cell 2; have s7 : w19.cell? ⟨b5, 7, none⟩ = some (.slice A n c) := L19.bx.cell 7; have hldc := big_load0 Try.prog wr.heap.size 0 (wc (z, o, p)) m (by rw [hwl, HM.out]) w19 X19.range0)
                    clear L19 X19
                    obtain ⟨mp, hmp, hszp⟩ := big_size (P := Try.prog) (t := 42) (s := 64) (by kernel_rfl)
                    have hmp0 : ¬ mp = 0 := by omega
                    have HMP := Lib.hid hmp
                    have HNE := Lib.hid (show w7.heap.size ≠ w19.heap.size by have := HX19.out.lt; omega)
                    clear hmp
                    generalize fnd sf (z, o) = F2 at HB0 ⊢
                    cases F2 with
                    | some x2 =>
                      as_aux_lemma =>
                        have HP2 : Hid (x2.length = 64) := Lib.hid (HB0.out.2.1 x2 rfl)
                        simp only [Option.getD_some, Option.getD_none, Option.isSome_some, Option.isSome_none]
                        go_wp2_with (first
                          | ((with_reducible refine wpList_pg_alloc (o := ⟨some 16, .alloc _, _, _, _, _⟩) rfl rfl ?_); intro w20 x20 hB20 hs20; clear hs20)
                          | ((with_reducible refine wpList_pg_store (o := ⟨none, .store _ _ _, _, _, _, _⟩) rfl _ _ rfl w19.heap.size x2 pg0 HP2.out rfl rfl rfl x20 ?_); intro w21 x21 hg21 hs21; clear hs21; have HB21 := Lib.hid (bthen HB19.out (below_stored hB20 hg21 hB20.size (Nat.le_refl _))); have HX21 := Lib.hid ((HX19.out.on hB20).grown hg21 HNE.out); have l21 := big_load0 Try.prog w19.heap.size 0 (bs x2) mp (by rw [bs_length, HP2.out, HMP.out]) w21 x21.range0; clear x20 hB20 hg21 x21 z7 z8 e0 e7 e8 f0 f1 f2 s7 hldc; have L21 := HL7.out.on HB21.out; have X21 := HX7.out.on HB21.out; have z7 : w21.cell? ⟨wr.heap.size, 0, none⟩ = some (.int .i64 z) := X21.cell 0; have z8 : w21.cell? ⟨wr.heap.size, 1, none⟩ = some (.int .i64 o) := X21.cell 1; have e0 : w21.cell? ⟨w.heap.size, 0, none⟩ = some (.int .i64 conv) := (by rw [← HV.out.1]; exact L21.st.1.kd.1); have e7 : w21.cell? ⟨w.heap.size, 7, none⟩ = some (.slice As ns cs) := (by rw [← HV2.out.2.2.1]; exact L21.st.1.kdv.2.2.1); have e8 : w21.cell? ⟨w.heap.size, 8, none⟩ = some (.slice (some ⟨g, 0, none⟩) (k + 1) cc) := (by rw [← HV2.out.2.2.2]; exact L21.st.1.kdv.2.2.2); have f0 : w21.cell? ⟨w.heap.size + 1, 0, none⟩ = some (.slice keepA kn kc) := L21.st.2.1.cell 0; have f1 : w21.cell? ⟨w.heap.size + 1, 1, none⟩ = some (.int .u64 soft0) := L21.st.2.1.cell 1; have f2 : w21.cell? ⟨w.heap.size + 1, 2, none⟩ = some (.int .i64 tear) := L21.st.2.1.cell 2; have s7 : w21.cell? ⟨b5, 7, none⟩ = some (.slice A n c) := L21.bx.cell 7; have hldc := big_load0 Try.prog wr.heap.size 0 (wc (z, o, p)) m (by rw [hwl, HM.out]) w21 X21.range0; clear L21 X21)
                          | ((with_reducible refine wpList_pg_store (o := ⟨none, .store _ _ _, _, _, _, _⟩) rfl _ _ rfl w7.heap.size x2 P1 HP2.out HP1.out rfl rfl HX21.out ?_); intro w22 x22 hg22 hs22; clear hs22; have HB22 := Lib.hid (below_stored HB21.out hg22 HB21.out.size (Nat.le_refl _)); have HX22 := Lib.hid x22; clear hg22 x22 l21 z7 z8 e0 e7 e8 f0 f1 f2 s7 hldc; have L22 := HL7.out.on HB22.out; have X22 := HX7.out.on HB22.out; have z7 : w22.cell? ⟨wr.heap.size, 0, none⟩ = some (.int .i64 z) := X22.cell 0; have z8 : w22.cell? ⟨wr.heap.size, 1, none⟩ = some (.int .i64 o) := X22.cell 1; have e0 : w22.cell? ⟨w.heap.size, 0, none⟩ = some (.int .i64 conv) := (by rw [← HV.out.1]; exact L22.st.1.kd.1); have e7 : w22.cell? ⟨w.heap.size, 7, none⟩ = some (.slice As ns cs) := (by rw [← HV2.out.2.2.1]; exact L22.st.1.kdv.2.2.1); have e8 : w22.cell? ⟨w.heap.size, 8, none⟩ = some (.slice (some ⟨g, 0, none⟩) (k + 1) cc) := (by rw [← HV2.out.2.2.2]; exact L22.st.1.kdv.2.2.2); have f0 : w22.cell? ⟨w.heap.size + 1, 0, none⟩ = some (.slice keepA kn kc) := L22.st.2.1.cell 0; have f1 : w22.cell? ⟨w.heap.size + 1, 1, none⟩ = some (.int .u64 soft0) := L22.st.2.1.cell 1; have f2 : w22.cell? ⟨w.heap.size + 1, 2, none⟩ = some (.int .i64 tear) := L22.st.2.1.cell 2; have s7 : w22.cell? ⟨b5, 7, none⟩ = some (.slice A n c) := L22.bx.cell 7; have hldc := big_load0 Try.prog wr.heap.size 0 (wc (z, o, p)) m (by rw [hwl, HM.out]) w22 X22.range0; clear L22 X22)
                          | fail)
                        have HB16 := HB22
                        have HBASE : Hid (x2.length = 64 ∧ tornK conv tear d.safe sf (z, o, p) = (z, o, mix p x2 (min tear 64).toNat)) := Lib.hid ⟨HP2.out, HB0.out.2.2⟩
                        have hx16 : Box w22 w7.heap.size 42 (bs (mix p x2 0)) := by rw [mix_zero]; exact HX22.out
                        clear HX21 HX22 HB21 HB22 HB19 HX19 hszp hmp0 HMP
                        generalize x2 = BASE at HBASE hx16
                        have HX16b := Lib.hid hx16
                        clear hx16
                        generalize wr.heap.size = b10 at *
                        obtain ⟨b15, hb15⟩ : ∃ b, b = w7.heap.size := ⟨_, rfl⟩
                        rw [← hb15] at HX16b ⊢
                        have HB15 := Lib.hid hb15
                        obtain ⟨mp, hmp, hszp⟩ := big_size (P := Try.prog) (t := 42) (s := 64) (by kernel_rfl)
                        have hmp0 : ¬ mp = 0 := by omega
                        have HMP := Lib.hid hmp
                        clear hb15 hmp z7 z8 e0 e7 e8 f0 f1 f2 s7 hldc
                        have hpl9 := hpl
                        have HPL := Lib.hid hpl9
                        clear hpl9
                        go_loopw [18] (fun i wt => ∃ q : Nat, q ≤ (min tear 64).toNat ∧ i = .int .i64 q ∧ Below w7.heap.size w7 wt ∧ Box wt b15 42 (bs (mix p BASE q))) (fun i _ => 64 - (intOf i).toNat)
                        case atStart => exact ⟨0, Nat.zero_le _, rfl, HB16.out, HX16b.out⟩
                        case round =>
                          obtain ⟨q, hq, rfl, hbel, hbx⟩ := hrel
                          have Lr := HL7.out.on hbel
                          have Xr := HX7.out.on hbel
                          have z7 : wr.cell? ⟨b10, 0, none⟩ = some (.int .i64 z) := Xr.cell 0
                          have z8 : wr.cell? ⟨b10, 1, none⟩ = some (.int .i64 o) := Xr.cell 1
                          have f2 : wr.cell? ⟨w.heap.size + 1, 2, none⟩ = some (.int .i64 tear) := Lr.st.2.1.cell 2
                          have s7 : wr.cell? ⟨b5, 7, none⟩ = some (.slice A n c) := Lr.bx.cell 7
                          have hml : (mix p BASE q).length = 64 := by rw [mix_length (by rw [HPL.out, HBASE.out.1]) (by rw [HBASE.out.1]; omega), HBASE.out.1]
                          by_cases hq2 : q < (min tear 64).toNat
                          · have hqt : (q : Int) < tear := by omega
                            have hq64 : (q : Int) < 64 := by omega
                            have hpk : wr.cell? ⟨b10, 2 + q, none⟩ = some (.int .u8 (p.getD q 0)) := (Xr.cell (2 + q)).trans (wc_byte (by rw [HPL.out]; omega))
                            have HOLD := Lib.hid (bs_at (p := mix p BASE q) (q := q) (by rw [hml]; omega))
                            have HR := Lib.hid (And.intro hbel (And.intro hq2 hq))
                            clear hbel hq2 hq Lr Xr hml
                            go_wp2_with (first
                              | ((with_reducible refine wpList_box_u8 (o := ⟨none, .store _ _ _, _, _, _, _⟩) rfl _ _ _ rfl b15 q _ _ (p.getD q 0) _ rfl rfl hbx HOLD.out size_u8 ?_); intro w20 hw20; have HE := Lib.hid hw20; clear hw20)
                              | fail)
                            go_roundw
                            case rel =>
                              refine ⟨q + 1, by have := HR.out.2.1; omega, by go_num, ?_, ?_⟩
                              · rw [HE.out]; exact below_stored HR.out.1 (grown_setCell _ ⟨b15, q, none⟩ _) HR.out.1.size (by rw [HB15.out]; exact Nat.le_refl _)
                              · rw [HE.out, ← mix_set (by rw [HPL.out, HBASE.out.1]) (by rw [HBASE.out.1]; have := HR.out.2.1; omega), bs_set1]; exact hbx.set q _
                            case measure => first | (simp [intOf]; done) | (simp [intOf]; omega)
                          · obtain rfl : q = (min tear 64).toNat := by omega
                            have hend : ¬ (((min tear 64).toNat : Nat) : Int) < 64 ∨ ((((min tear 64).toNat : Nat) : Int) < 64 ∧ ¬ (((min tear 64).toNat : Nat) : Int) < tear) := by omega
                            have HTK := Lib.hid HBASE.out.2
                            have HR := Lib.hid (And.intro Lr Xr)
                            clear hq hq2 Lr Xr hbel
                            generalize mix p BASE (min tear 64).toNat = P9 at hbx hml HTK
                            have hldp := big_load0 Try.prog b15 0 (bs P9) mp (by rw [bs_length, hml, HMP.out]) wr hbx.range0
                            have hwl9 : (wc (z, o, P9)).length = 66 := wc_length hml
                            have hlm9 : (wc (z, o, P9)).length = m := by rw [hwl9, HM.out]
                            have hfold9 := fold_box Try.zeroCells74 66 (wc (z, o, P9)) m (by rw [hwl9, HM.out])
                            clear hbx
                            generalize ((min tear 64).toNat : Nat) = q9 at hend ⊢
                            rcases hend with hend | ⟨hend1, hend2⟩
                            all_goals
                              go_wp2_with (first
                                | (with_reducible refine wpList_build_cell _ (o := ⟨_, .build _ _, _, _, _, _⟩) rfl _ _ rfl z o P9 hml rfl rfl ?_)
                                | (at_builtin; go_loud (refine wpList_append_new _ rfl _ _ _ rfl (w.heap.size + 3) 74 _ 66 80 elemC (.slice A n c) _ _ rfl (wc (z, o, P9)) rfl HR.out.1.own hwl9 (fun u hu => wc_cells hu) (by have := HW.out.2.2.2; simp only [maxLen]; omega) (by have := HW.out.2.2.2; omega) HR.out.1.st.2.2.2.2 ?_); intro v1 w29 hown9 hg9; obtain ⟨A1, c1, rfl⟩ := own_slice hown9; have x9 := HR.out.1.five hg9; have HO9 := Lib.hid (And.intro hown9 hg9); clear hown9 hg9 s7)
                                | ((with_reducible refine wpList_box_slice (o := ⟨none, .store _ _ _, _, _, _, _⟩) rfl _ _ _ rfl b5 7 _ _ A1 _ c1 _ rfl rfl x9 rfl size_rcells ?_); intro w30 hw30)
                                | fail)
                              go_roundw
                              case rel =>
                                refine ⟨k + 1, HLT.out, by go_num, ?_, ?_, A1, n + 1, c1, ?_⟩
                                · rw [HX.out.1, HSTEP.out]
                                · rw [HX.out.1, HSTEP.out]
                                · rw [HX.out.2, HSTEP.out, if_pos HYES.out, HX.out.1, HSTEP.out]
                                  dsimp only
                                  rw [HTK.out]
                                  exact HR.out.1.more1 HO9.out.2 HO9.out.1
                              case measure => have := HLT.out; first | (simp [intOf]; done) | (simp [intOf]; omega)
                    | none =>
                      as_aux_lemma =>
                        have HP2 : Hid (z64.length = 64) := Lib.hid (by rfl)
                        simp only [Option.getD_some, Option.getD_none, Option.isSome_some, Option.isSome_none]
                        go_wp2_with (first
                          | ((with_reducible refine wpList_pg_alloc (o := ⟨some 16, .alloc _, _, _, _, _⟩) rfl rfl ?_); intro w20 x20 hB20 hs20; clear hs20)
                          | ((with_reducible refine wpList_pg_store (o := ⟨none, .store _ _ _, _, _, _, _⟩) rfl _ _ rfl w19.heap.size z64 pg0 HP2.out rfl rfl rfl x20 ?_); intro w21 x21 hg21 hs21; clear hs21; have HB21 := Lib.hid (bthen HB19.out (below_stored hB20 hg21 hB20.size (Nat.le_refl _))); have HX21 := Lib.hid ((HX19.out.on hB20).grown hg21 HNE.out); have l21 := big_load0 Try.prog w19.heap.size 0 (bs z64) mp (by rw [bs_length, HP2.out, HMP.out]) w21 x21.range0; clear x20 hB20 hg21 x21 z7 z8 e0 e7 e8 f0 f1 f2 s7 hldc; have L21 := HL7.out.on HB21.out; have X21 := HX7.out.on HB21.out; have z7 : w21.cell? ⟨wr.heap.size, 0, none⟩ = some (.int .i64 z) := X21.cell 0; have z8 : w21.cell? ⟨wr.heap.size, 1, none⟩ = some (.int .i64 o) := X21.cell 1; have e0 : w21.cell? ⟨w.heap.size, 0, none⟩ = some (.int .i64 conv) := (by rw [← HV.out.1]; exact L21.st.1.kd.1); have e7 : w21.cell? ⟨w.heap.size, 7, none⟩ = some (.slice As ns cs) := (by rw [← HV2.out.2.2.1]; exact L21.st.1.kdv.2.2.1); have e8 : w21.cell? ⟨w.heap.size, 8, none⟩ = some (.slice (some ⟨g, 0, none⟩) (k + 1) cc) := (by rw [← HV2.out.2.2.2]; exact L21.st.1.kdv.2.2.2); have f0 : w21.cell? ⟨w.heap.size + 1, 0, none⟩ = some (.slice keepA kn kc) := L21.st.2.1.cell 0; have f1 : w21.cell? ⟨w.heap.size + 1, 1, none⟩ = some (.int .u64 soft0) := L21.st.2.1.cell 1; have f2 : w21.cell? ⟨w.heap.size + 1, 2, none⟩ = some (.int .i64 tear) := L21.st.2.1.cell 2; have s7 : w21.cell? ⟨b5, 7, none⟩ = some (.slice A n c) := L21.bx.cell 7; have hldc := big_load0 Try.prog wr.heap.size 0 (wc (z, o, p)) m (by rw [hwl, HM.out]) w21 X21.range0; clear L21 X21)
                          | fail)
                        have HB16 := HB21
                        have HBASE : Hid (P1.length = 64 ∧ tornK conv tear d.safe sf (z, o, p) = (z, o, mix p P1 (min tear 64).toNat)) := Lib.hid ⟨HP1.out, by rw [← HPE.out]; exact HB0.out.2.2⟩
                        have hx16 : Box w21 w7.heap.size 42 (bs (mix p P1 0)) := by rw [mix_zero]; exact HX21.out
                        clear HX21 HB21 HB19 HX19 l21 hszp hmp0 HMP
                        generalize P1 = BASE at HBASE hx16
                        have HX16b := Lib.hid hx16
                        clear hx16
                        generalize wr.heap.size = b10 at *
                        obtain ⟨b15, hb15⟩ : ∃ b, b = w7.heap.size := ⟨_, rfl⟩
                        rw [← hb15] at HX16b ⊢
                        have HB15 := Lib.hid hb15
                        obtain ⟨mp, hmp, hszp⟩ := big_size (P := Try.prog) (t := 42) (s := 64) (by kernel_rfl)
                        have hmp0 : ¬ mp = 0 := by omega
                        have HMP := Lib.hid hmp
                        clear hb15 hmp z7 z8 e0 e7 e8 f0 f1 f2 s7 hldc
                        have hpl9 := hpl
                        have HPL := Lib.hid hpl9
                        clear hpl9
                        go_loopw [18] (fun i wt => ∃ q : Nat, q ≤ (min tear 64).toNat ∧ i = .int .i64 q ∧ Below w7.heap.size w7 wt ∧ Box wt b15 42 (bs (mix p BASE q))) (fun i _ => 64 - (intOf i).toNat)
                        case atStart => exact ⟨0, Nat.zero_le _, rfl, HB16.out, HX16b.out⟩
                        case round =>
                          obtain ⟨q, hq, rfl, hbel, hbx⟩ := hrel
                          have Lr := HL7.out.on hbel
                          have Xr := HX7.out.on hbel
                          have z7 : wr.cell? ⟨b10, 0, none⟩ = some (.int .i64 z) := Xr.cell 0
                          have z8 : wr.cell? ⟨b10, 1, none⟩ = some (.int .i64 o) := Xr.cell 1
                          have f2 : wr.cell? ⟨w.heap.size + 1, 2, none⟩ = some (.int .i64 tear) := Lr.st.2.1.cell 2
                          have s7 : wr.cell? ⟨b5, 7, none⟩ = some (.slice A n c) := Lr.bx.cell 7
                          have hml : (mix p BASE q).length = 64 := by rw [mix_length (by rw [HPL.out, HBASE.out.1]) (by rw [HBASE.out.1]; omega), HBASE.out.1]
                          by_cases hq2 : q < (min tear 64).toNat
                          · have hqt : (q : Int) < tear := by omega
                            have hq64 : (q : Int) < 64 := by omega
                            have hpk : wr.cell? ⟨b10, 2 + q, none⟩ = some (.int .u8 (p.getD q 0)) := (Xr.cell (2 + q)).trans (wc_byte (by rw [HPL.out]; omega))
                            have HOLD := Lib.hid (bs_at (p := mix p BASE q) (q := q) (by rw [hml]; omega))
                            have HR := Lib.hid (And.intro hbel (And.intro hq2 hq))
                            clear hbel hq2 hq Lr Xr hml
                            go_wp2_with (first
                              | ((with_reducible refine wpList_box_u8 (o := ⟨none, .store _ _ _, _, _, _, _⟩) rfl _ _ _ rfl b15 q _ _ (p.getD q 0) _ rfl rfl hbx HOLD.out size_u8 ?_); intro w20 hw20; have HE := Lib.hid hw20; clear hw20)
                              | fail)
                            go_roundw
                            case rel =>
                              refine ⟨q + 1, by have := HR.out.2.1; omega, by go_num, ?_, ?_⟩
                              · rw [HE.out]; exact below_stored HR.out.1 (grown_setCell _ ⟨b15, q, none⟩ _) HR.out.1.size (by rw [HB15.out]; exact Nat.le_refl _)
                              · rw [HE.out, ← mix_set (by rw [HPL.out, HBASE.out.1]) (by rw [HBASE.out.1]; have := HR.out.2.1; omega), bs_set1]; exact hbx.set q _
                            case measure => first | (simp [intOf]; done) | (simp [intOf]; omega)
                          · obtain rfl : q = (min tear 64).toNat := by omega
                            have hend : ¬ (((min tear 64).toNat : Nat) : Int) < 64 ∨ ((((min tear 64).toNat : Nat) : Int) < 64 ∧ ¬ (((min tear 64).toNat : Nat) : Int) < tear) := by omega
                            have HTK := Lib.hid HBASE.out.2
                            have HR := Lib.hid (And.intro Lr Xr)
                            clear hq hq2 Lr Xr hbel
                            generalize mix p BASE (min tear 64).toNat = P9 at hbx hml HTK
                            have hldp := big_load0 Try.prog b15 0 (bs P9) mp (by rw [bs_length, hml, HMP.out]) wr hbx.range0
                            have hwl9 : (wc (z, o, P9)).length = 66 := wc_length hml
                            have hlm9 : (wc (z, o, P9)).length = m := by rw [hwl9, HM.out]
                            have hfold9 := fold_box Try.zeroCells74 66 (wc (z, o, P9)) m (by rw [hwl9, HM.out])
                            clear hbx
                            generalize ((min tear 64).toNat : Nat) = q9 at hend ⊢
                            rcases hend with hend | ⟨hend1, hend2⟩
                            all_goals
                              go_wp2_with (first
                                | (with_reducible refine wpList_build_cell _ (o := ⟨_, .build _ _, _, _, _, _⟩) rfl _ _ rfl z o P9 hml rfl rfl ?_)
                                | (at_builtin; go_loud (refine wpList_append_new _ rfl _ _ _ rfl (w.heap.size + 3) 74 _ 66 80 elemC (.slice A n c) _ _ rfl (wc (z, o, P9)) rfl HR.out.1.own hwl9 (fun u hu => wc_cells hu) (by have := HW.out.2.2.2; simp only [maxLen]; omega) (by have := HW.out.2.2.2; omega) HR.out.1.st.2.2.2.2 ?_); intro v1 w29 hown9 hg9; obtain ⟨A1, c1, rfl⟩ := own_slice hown9; have x9 := HR.out.1.five hg9; have HO9 := Lib.hid (And.intro hown9 hg9); clear hown9 hg9 s7)
                                | ((with_reducible refine wpList_box_slice (o := ⟨none, .store _ _ _, _, _, _, _⟩) rfl _ _ _ rfl b5 7 _ _ A1 _ c1 _ rfl rfl x9 rfl size_rcells ?_); intro w30 hw30)
                                | fail)
                              go_roundw
                              case rel =>
                                refine ⟨k + 1, HLT.out, by go_num, ?_, ?_, A1, n + 1, c1, ?_⟩
                                · rw [HX.out.1, HSTEP.out]
                                · rw [HX.out.1, HSTEP.out]
                                · rw [HX.out.2, HSTEP.out, if_pos HYES.out, HX.out.1, HSTEP.out]
                                  dsimp only
                                  rw [HTK.out]
                                  exact HR.out.1.more1 HO9.out.2 HO9.out.1
                              case measure => have := HLT.out; first | (simp [intOf]; done) | (simp [intOf]; omega)
              · have hkz : ¬ (k : Int) = (nc : Int) - 1 := by omega
                have HKL := Lib.hid hlast
                clear hlast
                as_aux_lemma =>
                  go_wp2_with (first
                    | ((with_reducible refine wpList_cell_alloc (o := ⟨some 10, .alloc _, _, _, _, _⟩) rfl rfl ?_); intro w6 x6 hB6 hs6; clear hs6)
                    | ((with_reducible refine wpList_cell_store (o := ⟨none, .store _ _ _, _, _, _, _⟩) rfl _ _ rfl wr.heap.size (z, o, p) c00 hpl rfl rfl rfl x6 ?_); intro w7 x7 hg7 hs7; clear hs7; have hB7 : Below wr.heap.size wr w7 := below_stored hB6 hg7 hB6.size (Nat.le_refl _); have L7 := HL.out.on hB7; have z7 : w7.cell? ⟨wr.heap.size, 0, none⟩ = some (.int .i64 z) := x7.cell 0; have z8 : w7.cell? ⟨wr.heap.size, 1, none⟩ = some (.int .i64 o) := x7.cell 1; have e0 : w7.cell? ⟨w.heap.size, 0, none⟩ = some (.int .i64 conv) := (by rw [← HV.out.1]; exact L7.st.1.kd.1); have e7 : w7.cell? ⟨w.heap.size, 7, none⟩ = some (.slice As ns cs) := (by rw [← HV2.out.2.2.1]; exact L7.st.1.kdv.2.2.1); have e8 : w7.cell? ⟨w.heap.size, 8, none⟩ = some (.slice (some ⟨g, 0, none⟩) nc cc) := (by rw [← HV2.out.2.2.2]; exact L7.st.1.kdv.2.2.2); have f0 : w7.cell? ⟨w.heap.size + 1, 0, none⟩ = some (.slice keepA kn kc) := L7.st.2.1.cell 0; have f1 : w7.cell? ⟨w.heap.size + 1, 1, none⟩ = some (.int .u64 soft0) := L7.st.2.1.cell 1; have f2 : w7.cell? ⟨w.heap.size + 1, 2, none⟩ = some (.int .i64 tear) := L7.st.2.1.cell 2; have s7 : w7.cell? ⟨b5, 7, none⟩ = some (.slice A n c) := L7.bx.cell 7; have hldc := big_load0 Try.prog wr.heap.size 0 (wc (z, o, p)) m (by rw [hwl, HM.out]) w7 x7.range0; have HL7 := Lib.hid L7; have HX7 := Lib.hid x7; clear x6 hB6 hg7 hB7 d8 hld; have x7s := L7.sn; clear L7 x7)
                    | fail)
                  have hstep : ckStep conv keep soft0 ⟨bt, so, sn, sf⟩ (z, o, p) = ⟨soft0 / 2, so + 1, sn, sf⟩ := by
                    unfold ckStep ckLeft
                    simp [hz, HZ.out.1, HZ.out.2]
                  have hno : ¬ (k + 1 = d.cached.length ∧ ckLeft conv keep soft0 ⟨bt, so, sn, sf⟩ (z, o, p) = false ∧ ckNext conv keep ⟨bt, so, sn, sf⟩ (z, o, p) = true ∧ 0 < tear) := by
                    have := HKL.out
                    have := HN.out.2.2.2.2.2.1
                    omega
                  go_roundw
                  case rel =>
                    refine ⟨k + 1, HLT.out, by go_num, ?_, ?_, A, n, c, ?_⟩
                    · rw [HX.out.1, hstep]
                    · rw [HX.out.1, hstep]
                    · rw [HX.out.2, hstep, if_neg hno, HX.out.1, hstep]
                      exact HL7.out
                  case measure => have := HLT.out; first | (simp [intOf]; done) | (simp [intOf]; omega)
          · have hmt : (so % 64 == 0) = false := by simpa using hm
            by_cases hlf : bt % 2 = 1
            · have hlt2 : (bt % 2 == 1) = true := by rw [hlf]; rfl
              have HZ := Lib.hid (And.intro hm hlf)
              clear hm hlf
              as_aux_lemma =>
                go_wp2_with (first
                  | ((with_reducible refine wpList_cell_alloc (o := ⟨some 10, .alloc _, _, _, _, _⟩) rfl rfl ?_); intro w6 x6 hB6 hs6; clear hs6)
                  | ((with_reducible refine wpList_cell_store (o := ⟨none, .store _ _ _, _, _, _, _⟩) rfl _ _ rfl wr.heap.size (z, o, p) c00 hpl rfl rfl rfl x6 ?_); intro w7 x7 hg7 hs7; clear hs7; have hB7 : Below wr.heap.size wr w7 := below_stored hB6 hg7 hB6.size (Nat.le_refl _); have L7 := HL.out.on hB7; have z7 : w7.cell? ⟨wr.heap.size, 0, none⟩ = some (.int .i64 z) := x7.cell 0; have z8 : w7.cell? ⟨wr.heap.size, 1, none⟩ = some (.int .i64 o) := x7.cell 1; have e0 : w7.cell? ⟨w.heap.size, 0, none⟩ = some (.int .i64 conv) := (by rw [← HV.out.1]; exact L7.st.1.kd.1); have e7 : w7.cell? ⟨w.heap.size, 7, none⟩ = some (.slice As ns cs) := (by rw [← HV2.out.2.2.1]; exact L7.st.1.kdv.2.2.1); have e8 : w7.cell? ⟨w.heap.size, 8, none⟩ = some (.slice (some ⟨g, 0, none⟩) nc cc) := (by rw [← HV2.out.2.2.2]; exact L7.st.1.kdv.2.2.2); have f0 : w7.cell? ⟨w.heap.size + 1, 0, none⟩ = some (.slice keepA kn kc) := L7.st.2.1.cell 0; have f1 : w7.cell? ⟨w.heap.size + 1, 1, none⟩ = some (.int .u64 soft0) := L7.st.2.1.cell 1; have f2 : w7.cell? ⟨w.heap.size + 1, 2, none⟩ = some (.int .i64 tear) := L7.st.2.1.cell 2; have s7 : w7.cell? ⟨b5, 7, none⟩ = some (.slice A n c) := L7.bx.cell 7; have hldc := big_load0 Try.prog wr.heap.size 0 (wc (z, o, p)) m (by rw [hwl, HM.out]) w7 x7.range0; have HL7 := Lib.hid L7; have HX7 := Lib.hid x7; clear x6 hB6 hg7 hB7 d8 hld; have x7s := L7.sn; clear L7 x7)
                  | (at_builtin; go_loud (refine wpList_append_new _ rfl _ _ _ rfl (w.heap.size + 3) 74 _ 66 80 elemC (.slice A n c) _ _ rfl (wc (z, o, p)) rfl HL7.out.own hwl (fun u hu => wc_cells hu) (by have := HW.out.2.2.2; simp only [maxLen]; omega) (by have := HW.out.2.2.2; omega) HL7.out.st.2.2.2.2 ?_); intro v1 w9 hown9 hg9; obtain ⟨A1, c1, rfl⟩ := own_slice hown9; have x9 := HL7.out.five hg9; have HO9 := Lib.hid (And.intro hown9 hg9); clear hown9 hg9 s7)
                  | ((with_reducible refine wpList_box_slice (o := ⟨none, .store _ _ _, _, _, _, _⟩) rfl _ _ _ rfl b5 7 _ _ A1 _ c1 _ rfl rfl x9 rfl size_rcells ?_); intro w10 hw10)
                  | fail)
                have hstep : ckStep conv keep soft0 ⟨bt, so, sn, sf⟩ (z, o, p) = ⟨bt / 2, so + 1, sn, sf ++ [(z, o, p)]⟩ := by
                  unfold ckStep ckLeft
                  simp [hz, HZ.out.1, HZ.out.2]
                have hno : ¬ (k + 1 = d.cached.length ∧ ckLeft conv keep soft0 ⟨bt, so, sn, sf⟩ (z, o, p) = false ∧ ckNext conv keep ⟨bt, so, sn, sf⟩ (z, o, p) = true ∧ 0 < tear) := by
                  unfold ckLeft
                  simp [hz, HZ.out.1, HZ.out.2]
                go_roundw
                case rel =>
                  refine ⟨k + 1, HLT.out, by go_num, ?_, ?_, A1, n + 1, c1, ?_⟩
                  · rw [HX.out.1, hstep]
                  · rw [HX.out.1, hstep]
                  · rw [HX.out.2, hstep, if_neg hno, HX.out.1, hstep]
                    exact HL7.out.more1 HO9.out.2 HO9.out.1
                case measure => have := HLT.out; first | (simp [intOf]; done) | (simp [intOf]; omega)
            · have hlt2 : (bt % 2 == 1) = false := by simpa using hlf
              have HZ := Lib.hid (And.intro hm hlf)
              clear hm hlf
              by_cases hlast : k + 1 = nc
              · subst hlast
                by_cases ht0 : tear ≤ 0
                · have HT0 := Lib.hid ht0
                  as_aux_lemma =>
                    go_wp2_with (first
                      | ((with_reducible refine wpList_cell_alloc (o := ⟨some 10, .alloc _, _, _, _, _⟩) rfl rfl ?_); intro w6 x6 hB6 hs6; clear hs6)
                      | ((with_reducible refine wpList_cell_store (o := ⟨none, .store _ _ _, _, _, _, _⟩) rfl _ _ rfl wr.heap.size (z, o, p) c00 hpl rfl rfl rfl x6 ?_); intro w7 x7 hg7 hs7; clear hs7; have hB7 : Below wr.heap.size wr w7 := below_stored hB6 hg7 hB6.size (Nat.le_refl _); have L7 := HL.out.on hB7; have z7 : w7.cell? ⟨wr.heap.size, 0, none⟩ = some (.int .i64 z) := x7.cell 0; have z8 : w7.cell? ⟨wr.heap.size, 1, none⟩ = some (.int .i64 o) := x7.cell 1; have e0 : w7.cell? ⟨w.heap.size, 0, none⟩ = some (.int .i64 conv) := (by rw [← HV.out.1]; exact L7.st.1.kd.1); have e7 : w7.cell? ⟨w.heap.size, 7, none⟩ = some (.slice As ns cs) := (by rw [← HV2.out.2.2.1]; exact L7.st.1.kdv.2.2.1); have e8 : w7.cell? ⟨w.heap.size, 8, none⟩ = some (.slice (some ⟨g, 0, none⟩) (k + 1) cc) := (by rw [← HV2.out.2.2.2]; exact L7.st.1.kdv.2.2.2); have f0 : w7.cell? ⟨w.heap.size + 1, 0, none⟩ = some (.slice keepA kn kc) := L7.st.2.1.cell 0; have f1 : w7.cell? ⟨w.heap.size + 1, 1, none⟩ = some (.int .u64 soft0) := L7.st.2.1.cell 1; have f2 : w7.cell? ⟨w.heap.size + 1, 2, none⟩ = some (.int .i64 tear) := L7.st.2.1.cell 2; have s7 : w7.cell? ⟨b5, 7, none⟩ = some (.slice A n c) := L7.bx.cell 7; have hldc := big_load0 Try.prog wr.heap.size 0 (wc (z, o, p)) m (by rw [hwl, HM.out]) w7 x7.range0; have HL7 := Lib.hid L7; have HX7 := Lib.hid x7; clear x6 hB6 hg7 hB7 d8 hld; have x7s := L7.sn; clear L7 x7)
                      | fail)
                    have hstep : ckStep conv keep soft0 ⟨bt, so, sn, sf⟩ (z, o, p) = ⟨bt / 2, so + 1, sn, sf⟩ := by
                      unfold ckStep ckLeft
                      simp [hz, HZ.out.1, HZ.out.2]
                    have hno : ¬ (k + 1 = d.cached.length ∧ ckLeft conv keep soft0 ⟨bt, so, sn, sf⟩ (z, o, p) = false ∧ ckNext conv keep ⟨bt, so, sn, sf⟩ (z, o, p) = true ∧ 0 < tear) := by
                      have := HT0.out
                      omega
                    go_roundw
                    case rel =>
                      refine ⟨k + 1, HLT.out, by go_num, ?_, ?_, A, n, c, ?_⟩
                      · rw [HX.out.1, hstep]
                      · rw [HX.out.1, hstep]
                      · rw [HX.out.2, hstep, if_neg hno, HX.out.1, hstep]
                        exact HL7.out
                    case measure => have := HLT.out; first | (simp [intOf]; done) | (simp [intOf]; omega)
                · have ht1 : 0 < tear := by omega
                  have HT1 := Lib.hid ht1
                  as_aux_lemma =>
                    go_wp2_with (first
                      | ((with_reducible refine wpList_cell_alloc (o := ⟨some 10, .alloc _, _, _, _, _⟩) rfl rfl ?_); intro w6 x6 hB6 hs6; clear hs6)
                      | ((with_reducible refine wpList_cell_store (o := ⟨none, .store _ _ _, _, _, _, _⟩) rfl _ _ rfl wr.heap.size (z, o, p) c00 hpl rfl rfl rfl x6 ?_); intro w7 x7 hg7 hs7; clear hs7; have hB7 : Below wr.heap.size wr w7 := below_stored hB6 hg7 hB6.size (Nat.le_refl _); have L7 := HL.out.on hB7; have z7 : w7.cell? ⟨wr.heap.size, 0, none⟩ = some (.int .i64 z) := x7.cell 0; have z8 : w7.cell? ⟨wr.heap.size, 1, none⟩ = some (.int .i64 o) := x7.cell 1; have e0 : w7.cell? ⟨w.heap.size, 0, none⟩ = some (.int .i64 conv) := (by rw [← HV.out.1]; exact L7.st.1.kd.1); have e7 : w7.cell? ⟨w.heap.size, 7, none⟩ = some (.slice As ns cs) := (by rw [← HV2.out.2.2.1]; exact L7.st.1.kdv.2.2.1); have e8 : w7.cell? ⟨w.heap.size, 8, none⟩ = some (.slice (some ⟨g, 0, none⟩) (k + 1) cc) := (by rw [← HV2.out.2.2.2]; exact L7.st.1.kdv.2.2.2); have f0 : w7.cell? ⟨w.heap.size + 1, 0, none⟩ = some (.slice keepA kn kc) := L7.st.2.1.cell 0; have f1 : w7.cell? ⟨w.heap.size + 1, 1, none⟩ = some (.int .u64 soft0) := L7.st.2.1.cell 1; have f2 : w7.cell? ⟨w.heap.size + 1, 2, none⟩ = some (.int .i64 tear) := L7.st.2.1.cell 2; have s7 : w7.cell? ⟨b5, 7, none⟩ = some (.slice A n c) := L7.bx.cell 7; have hldc := big_load0 Try.prog wr.heap.size 0 (wc (z, o, p)) m (by rw [hwl, HM.out]) w7 x7.range0; have HL7 := Lib.hid L7; have HX7 := Lib.hid x7; clear x6 hB6 hg7 hB7 d8 hld; have x7s := L7.sn; clear L7 x7)
                      | (with_reducible refine wpList_build_zero _ (o := ⟨_, .build _ _, _, _, _, _⟩) rfl _ rfl (bs z64) pg_build ?_)
                      | ((with_reducible refine wpList_pg_alloc (o := ⟨some 15, .alloc _, _, _, _, _⟩) rfl rfl ?_); intro w15 x15 hB15 hs15; clear hs15)
                      | ((with_reducible refine wpList_pg_store (o := ⟨none, .store _ _ _, _, _, _, _⟩) rfl _ _ rfl w7.heap.size z64 pg0 rfl rfl rfl rfl x15 ?_); intro w16 x16 hg16 hs16; clear hs16; have HB16 := Lib.hid (below_stored hB15 hg16 hB15.size (Nat.le_refl _)); have HX16 := Lib.hid x16; clear x15 hB15 hg16 x16 z7 z8 e0 e7 e8 f0 f1 f2 s7 hldc; have L16 := HL7.out.on HB16.out; have X16 := HX7.out.on HB16.out; have z7 : w16.cell? ⟨wr.heap.size, 0, none⟩ = some (.int .i64 z) := X16.cell 0; have z8 : w16.cell? ⟨wr.heap.size, 1, none⟩ = some (.int .i64 o) := X16.cell 1; have e0 : w16.cell? ⟨w.heap.size, 0, none⟩ = some (.int .i64 conv) := (by rw [← HV.out.1]; exact L16.st.1.kd.1); have e7 : w16.cell? ⟨w.heap.size, 7, none⟩ = some (.slice As ns cs) := (by rw [← HV2.out.2.2.1]; exact L16.st.1.kdv.2.2.1); have e8 : w16.cell? ⟨w.heap.size, 8, none⟩ = some (.slice (some ⟨g, 0, none⟩) (k + 1) cc) := (by rw [← HV2.out.2.2.2]; exact L16.st.1.kdv.2.2.2); have f0 : w16.cell? ⟨w.heap.size + 1, 0, none⟩ = some (.slice keepA kn kc) := L16.st.2.1.cell 0; have f1 : w16.cell? ⟨w.heap.size + 1, 1, none⟩ = some (.int .u64 soft0) := L16.st.2.1.cell 1; have f2 : w16.cell? ⟨w.heap.size + 1, 2, none⟩ = some (.int .i64 tear) := L16.st.2.1.cell 2; have s7 : w16.cell? ⟨b5, 7, none⟩ = some (.slice A n c) := L16.bx.cell 7; have hldc := big_load0 Try.prog wr.heap.size 0 (wc (z, o, p)) m (by rw [hwl, HM.out]) w16 X16.range0; clear L16 X16)
                      | fail)
                    have HSTEP := Lib.hid (show ckStep conv keep soft0 ⟨bt, so, sn, sf⟩ (z, o, p) = ⟨bt / 2, so + 1, sn, sf⟩ by
                      unfold ckStep ckLeft
                      simp [hz, HZ.out.1, HZ.out.2])
                    have HYES := Lib.hid (show k + 1 = d.cached.length ∧ ckLeft conv keep soft0 ⟨bt, so, sn, sf⟩ (z, o, p) = false ∧ ckNext conv keep ⟨bt, so, sn, sf⟩ (z, o, p) = true ∧ 0 < tear by
                      refine ⟨HN.out.2.2.2.2.2.1.symm, ?_, ?_, HT1.out⟩
                      · unfold ckLeft; simp [hz, HZ.out.1, HZ.out.2]
                      · unfold ckNext; simp [hz])
                    have HB0 := Lib.hid (show (∀ x, fnd d.safe (z, o) = some x → x.length = 64) ∧ (∀ x, fnd sf (z, o) = some x → x.length = 64) ∧ tornK conv tear d.safe sf (z, o, p) = (z, o, mix p (((fnd sf (z, o)).or (fnd d.safe (z, o))).getD z64) (min tear 64).toNat) from
                      ⟨fun x h => fnd_wok HD.out.1 h, fun x h => fnd_wok HCK.out.wok h, by unfold tornK; dsimp only; rw [if_pos hz]; rfl⟩)
                    refine (find_any As ns cs d.safe (z, o) _ HN.out.2.2.2.2.1 (by have := HN.out.2.2.2.2.2.2; have := HN.out.2.2.2.2.1; have := HQ.out.2.2.2.2.1; omega) HD.out.1 ((HQ.out.1.row.below (HL7.out.on HB16.out).st.2.2.2.1).more (by have := (HL7.out.on HB16.out).st.2.2.2.1.size; omega))).mono ?_
                    rintro e w17 ⟨rfl, hb17⟩
                    have HB17 := Lib.hid (bthen HB16.out hb17)
                    have HX17 := Lib.hid (HX16.out.on hb17)
                    clear hb17 HX16 HB16 z7 z8 e0 e7 e8 f0 f1 f2 s7 hldc
                    have L17 := HL7.out.on HB17.out
                    have X17 := HX7.out.on HB17.out
                    (have z7 : w17.cell? ⟨wr.heap.size, 0, none⟩ = some (.int .i64 z) := X17.cell 0; have z8 : w17.cell? ⟨wr.heap.size, 1, none⟩ = some (.int .i64 o) := X17.cell 1; have e0 : w17.cell? ⟨w.heap.size, 0, none⟩ = some (.int .i64 conv) := (by rw [← HV.out.1]; exact L17.st.1.kd.1); have e7 : w17.cell? ⟨w.heap.size, 7, none⟩ = some (.slice As ns cs) := (by rw [← HV2.out.2.2.1]; exact L17.st.1.kdv.2.2.1); have e8 : w17.cell? ⟨w.heap.size, 8, none⟩ = some (.slice (some ⟨g, 0, none⟩) (k + 1) cc) := (by rw [← HV2.out.2.2.2]; exact L17.st.1.kdv.2.2.2); have f0 : w17.cell? ⟨w.heap.size + 1, 0, none⟩ = some (.slice keepA kn kc) := L17.st.2.1.cell 0; have f1 : w17.cell? ⟨w.heap.size + 1, 1, none⟩ = some (.int .u64 soft0) := L17.st.2.1.cell 1; have f2 : w17.cell? ⟨w.heap.size + 1, 2, none⟩ = some (.int .i64 tear) := L17.st.2.1.cell 2; have s7 : w17.cell? ⟨b5, 7, none⟩ = some (.slice A n c) := L17.bx.cell 7; have hldc := big_load0 Try.prog wr.heap.size 0 (wc (z, o, p)) m (by rw [hwl, HM.out]) w17 X17.range0)
                    clear L17 X17
                    generalize fnd d.safe (z, o) = F1 at HB0 ⊢
                    have HP1 : Hid ((F1.getD z64).length = 64) := Lib.hid (by
                      cases F1 with
                      | none => rfl
                      | some x => exact HB0.out.1 x rfl)
                    obtain ⟨P1, HPE⟩ : ∃ x, Hid (F1.getD z64 = x) := ⟨_, Lib.hid rfl⟩
                    rw [HPE.out] at HP1 ⊢
                    go_wp2_with (first
                      | ((with_reducible refine wpList_pg_store (o := ⟨none, .store _ _ _, _, _, _, _⟩) rfl _ _ rfl w7.heap.size P1 z64 HP1.out rfl rfl rfl HX17.out ?_); intro w18 x18 hg18 hs18; clear hs18; have HB18 := Lib.hid (below_stored HB17.out hg18 HB17.out.size (Nat.le_refl _)); have HX18 := Lib.hid x18; clear hg18 x18 z7 z8 e0 e7 e8 f0 f1 f2 s7 hldc; have L18 := HL7.out.on HB18.out; have X18 := HX7.out.on HB18.out; have z7 : w18.cell? ⟨wr.heap.size, 0, none⟩ = some (.int .i64 z) := X18.cell 0; have z8 : w18.cell? ⟨wr.heap.size, 1, none⟩ = some (.int .i64 o) := X18.cell 1; have e0 : w18.cell? ⟨w.heap.size, 0, none⟩ = some (.int .i64 conv) := (by rw [← HV.out.1]; exact L18.st.1.kd.1); have e7 : w18.cell? ⟨w.heap.size, 7, none⟩ = some (.slice As ns cs) := (by rw [← HV2.out.2.2.1]; exact L18.st.1.kdv.2.2.1); have e8 : w18.cell? ⟨w.heap.size, 8, none⟩ = some (.slice (some ⟨g, 0, none⟩) (k + 1) cc) := (by rw [← HV2.out.2.2.2]; exact L18.st.1.kdv.2.2.2); have f0 : w18.cell? ⟨w.heap.size + 1, 0, none⟩ = some (.slice keepA kn kc) := L18.st.2.1.cell 0; have f1 : w18.cell? ⟨w.heap.size + 1, 1, none⟩ = some (.int .u64 soft0) := L18.st.2.1.cell 1; have f2 : w18.cell? ⟨w.heap.size + 1, 2, none⟩ = some (.int .i64 tear) := L18.st.2.1.cell 2; have s7 : w18.cell? ⟨b5, 7, none⟩ = some (.slice A n c) := L18.bx.cell 7; have hldc := big_load0 Try.prog wr.heap.size 0 (wc (z, o, p)) m (by rw [hwl, HM.out]) w18 X18.range0; clear L18 X18)
                      | fail)
                    refine (find_any A n c sf (z, o) _ HL7.out.len (by have := HW.out.2.2.2; omega) HCK.out.wok (Row.own (HL7.out.on HB18.out).own)).mono ?_
                    rintro e w19 ⟨rfl, hb19⟩
                    have HB19 := Lib.hid (bthen HB18.out hb19)
                    have HX19 := Lib.hid (HX18.out.on hb19)
                    clear hb19 HX18 HX17 HB17 HB18 z7 z8 e0 e7 e8 f0 f1 f2 s7 hldc
                    have L19 := HL7.out.on HB19.out
                    have X19 := HX7.out.on HB19.out
                    (have z7 : w19.cell? ⟨wr.heap.size, 0, none⟩ = some (.int .i64 z) := X19.cell 0; have z8 : w19.cell? ⟨wr.heap.size, 1, none⟩ = some (.int .i64 o) := X19.cell 1; have e0 : w19.cell? ⟨w.heap.size, 0, none⟩ = some (.int .i64 conv) := (by rw [← HV.out.1]; exact L19.st.1.kd.1); have e7 : w19.cell? ⟨w.heap.size, 7, none⟩ = some (.slice As ns cs) := (by rw [← HV2.out.2.2.1]; exact L19.st.1.kdv.2.2.1); have e8 : w19.cell? ⟨w.heap.size, 8, none⟩ = some (.slice (some ⟨g, 0, none⟩) (k + 1) cc) := (by rw [← HV2.out.2.2.2]; exact L19.st.1.kdv.2.2.2); have f0 : w19.cell? ⟨w.heap.size + 1, 0, none⟩ = some (.slice keepA kn kc) := L19.st.2.1.cell 0; have f1 : w19.cell? ⟨w.heap.size + 1, 1, none⟩ = some (.int .u64 soft0) := L19.st.2.1.cell 1; have f2 : w19.cell? ⟨w.heap.size + 1, 2, none⟩ = some (.int .i64 tear) := L19.st.2.1.cell 2; have s7 : w19.cell? ⟨b5, 7, none⟩ = some (.slice A n c) := L19.bx.cell 7; have hldc := big_load0 Try.prog wr.heap.size 0 (wc (z, o, p)) m (by rw [hwl, HM.out]) w19 X19.range0)
                    clear L19 X19
                    obtain ⟨mp, hmp, hszp⟩ := big_size (P := Try.prog) (t := 42) (s := 64) (by kernel_rfl)
                    have hmp0 : ¬ mp = 0 := by omega
                    have HMP := Lib.hid hmp
                    have HNE := Lib.hid (show w7.heap.size ≠ w19.heap.size by have := HX19.out.lt; omega)
                    clear hmp
                    generalize fnd sf (z, o) = F2 at HB0 ⊢
                    cases F2 with
                    | some x2 =>
                      as_aux_lemma =>
                        have HP2 : Hid (x2.length = 64) := Lib.hid (HB0.out.2.1 x2 rfl)
                        simp only [Option.getD_some, Option.getD_none, Option.isSome_some, Option.isSome_none]
                        go_wp2_with (first
                          | ((with_reducible refine wpList_pg_alloc (o := ⟨some 16, .alloc _, _, _, _, _⟩) rfl rfl ?_); intro w20 x20 hB20 hs20; clear hs20)
                          | ((with_reducible refine wpList_pg_store (o := ⟨none, .store _ _ _, _, _, _, _⟩) rfl _ _ rfl w19.heap.size x2 pg0 HP2.out rfl rfl rfl x20 ?_); intro w21 x21 hg21 hs21; clear hs21; have HB21 := Lib.hid (bthen HB19.out (below_stored hB20 hg21 hB20.size (Nat.le_refl _))); have HX21 := Lib.hid ((HX19.out.on hB20).grown hg21 HNE.out); have l21 := big_load0 Try.prog w19.heap.size 0 (bs x2) mp (by rw [bs_length, HP2.out, HMP.out]) w21 x21.range0; clear x20 hB20 hg21 x21 z7 z8 e0 e7 e8 f0 f1 f2 s7 hldc; have L21 := HL7.out.on HB21.out; have X21 := HX7.out.on HB21.out; have z7 : w21.cell? ⟨wr.heap.size, 0, none⟩ = some (.int .i64 z) := X21.cell 0; have z8 : w21.cell? ⟨wr.heap.size, 1, none⟩ = some (.int .i64 o) := X21.cell 1; have e0 : w21.cell? ⟨w.heap.size, 0, none⟩ = some (.int .i64 conv) := (by rw [← HV.out.1]; exact L21.st.1.kd.1); have e7 : w21.cell? ⟨w.heap.size, 7, none⟩ = some (.slice As ns cs) := (by rw [← HV2.out.2.2.1]; exact L21.st.1.kdv.2.2.1); have e8 : w21.cell? ⟨w.heap.size, 8, none⟩ = some (.slice (some ⟨g, 0, none⟩) (k + 1) cc) := (by rw [← HV2.out.2.2.2]; exact L21.st.1.kdv.2.2.2); have f0 : w21.cell? ⟨w.heap.size + 1, 0, none⟩ = some (.slice keepA kn kc) := L21.st.2.1.cell 0; have f1 : w21.cell? ⟨w.heap.size + 1, 1, none⟩ = some (.int .u64 soft0) := L21.st.2.1.cell 1; have f2 : w21.cell? ⟨w.heap.size + 1, 2, none⟩ = some (.int .i64 tear) := L21.st.2.1.cell 2; have s7 : w21.cell? ⟨b5, 7, none⟩ = some (.slice A n c) := L21.bx.cell 7; have hldc := big_load0 Try.prog wr.heap.size 0 (wc (z, o, p)) m (by rw [hwl, HM.out]) w21 X21.range0; clear L21 X21)
                          | ((with_reducible refine wpList_pg_store (o := ⟨none, .store _ _ _, _, _, _, _⟩) rfl _ _ rfl w7.heap.size x2 P1 HP2.out HP1.out rfl rfl HX21.out ?_); intro w22 x22 hg22 hs22; clear hs22; have HB22 := Lib.hid (below_stored HB21.out hg22 HB21.out.size (Nat.le_refl _)); have HX22 := Lib.hid x22; clear hg22 x22 l21 z7 z8 e0 e7 e8 f0 f1 f2 s7 hldc; have L22 := HL7.out.on HB22.out; have X22 := HX7.out.on HB22.out; have z7 : w22.cell? ⟨wr.heap.size, 0, none⟩ = some (.int .i64 z) := X22.cell 0; have z8 : w22.cell? ⟨wr.heap.size, 1, none⟩ = some (.int .i64 o) := X22.cell 1; have e0 : w22.cell? ⟨w.heap.size, 0, none⟩ = some (.int .i64 conv) := (by rw [← HV.out.1]; exact L22.st.1.kd.1); have e7 : w22.cell? ⟨w.heap.size, 7, none⟩ = some (.slice As ns cs) := (by rw [← HV2.out.2.2.1]; exact L22.st.1.kdv.2.2.1); have e8 : w22.cell? ⟨w.heap.size, 8, none⟩ = some (.slice (some ⟨g, 0, none⟩) (k + 1) cc) := (by rw [← HV2.out.2.2.2]; exact L22.st.1.kdv.2.2.2); have f0 : w22.cell? ⟨w.heap.size + 1, 0, none⟩ = some (.slice keepA kn kc) := L22.st.2.1.cell 0; have f1 : w22.cell? ⟨w.heap.size + 1, 1, none⟩ = some (.int .u64 soft0) := L22.st.2.1.cell 1; have f2 : w22.cell? ⟨w.heap.size + 1, 2, none⟩ = some (.int .i64 tear) := L22.st.2.1.cell 2; have s7 : w22.cell? ⟨b5, 7, none⟩ = some (.slice A n c) := L22.bx.cell 7; have hldc := big_load0 Try.prog wr.heap.size 0 (wc (z, o, p)) m (by rw [hwl, HM.out]) w22 X22.range0; clear L22 X22)
                          | fail)
                        have HB16 := HB22
                        have HBASE : Hid (x2.length = 64 ∧ tornK conv tear d.safe sf (z, o, p) = (z, o, mix p x2 (min tear 64).toNat)) := Lib.hid ⟨HP2.out, HB0.out.2.2⟩
                        have hx16 : Box w22 w7.heap.size 42 (bs (mix p x2 0)) := by rw [mix_zero]; exact HX22.out
                        clear HX21 HX22 HB21 HB22 HB19 HX19 hszp hmp0 HMP
                        generalize x2 = BASE at HBASE hx16
                        have HX16b := Lib.hid hx16
                        clear hx16
                        generalize wr.heap.size = b10 at *
                        obtain ⟨b15, hb15⟩ : ∃ b, b = w7.heap.size := ⟨_, rfl⟩
                        rw [← hb15] at HX16b ⊢
                        have HB15 := Lib.hid hb15
                        obtain ⟨mp, hmp, hszp⟩ := big_size (P := Try.prog) (t := 42) (s := 64) (by kernel_rfl)
                        have hmp0 : ¬ mp = 0 := by omega
                        have HMP := Lib.hid hmp
                        clear hb15 hmp z7 z8 e0 e7 e8 f0 f1 f2 s7 hldc
                        have hpl9 := hpl
                        have HPL := Lib.hid hpl9
                        clear hpl9
                        go_loopw [18] (fun i wt => ∃ q : Nat, q ≤ (min tear 64).toNat ∧ i = .int .i64 q ∧ Below w7.heap.size w7 wt ∧ Box wt b15 42 (bs (mix p BASE q))) (fun i _ => 64 - (intOf i).toNat)
                        case atStart => exact ⟨0, Nat.zero_le _, rfl, HB16.out, HX16b.out⟩
                        case round =>
                          obtain ⟨q, hq, rfl, hbel, hbx⟩ := hrel
                          have Lr := HL7.out.on hbel
                          have Xr := HX7.out.on hbel
                          have z7 : wr.cell? ⟨b10, 0, none⟩ = some (.int .i64 z) := Xr.cell 0
                          have z8 : wr.cell? ⟨b10, 1, none⟩ = some (.int .i64 o) := Xr.cell 1
                          have f2 : wr.cell? ⟨w.heap.size + 1, 2, none⟩ = some (.int .i64 tear) := Lr.st.2.1.cell 2
                          have s7 : wr.cell? ⟨b5, 7, none⟩ = some (.slice A n c) := Lr.bx.cell 7
                          have hml : (mix p BASE q).length = 64 := by rw [mix_length (by rw [HPL.out, HBASE.out.1]) (by rw [HBASE.out.1]; omega), HBASE.out.1]
                          by_cases hq2 : q < (min tear 64).toNat
                          · have hqt : (q : Int) < tear := by omega
                            have hq64 : (q : Int) < 64 := by omega
                            have hpk : wr.cell? ⟨b10, 2 + q, none⟩ = some (.int .u8 (p.getD q 0)) := (Xr.cell (2 + q)).trans (wc_byte (by rw [HPL.out]; omega))
                            have HOLD := Lib.hid (bs_at (p := mix p BASE q) (q := q) (by rw [hml]; omega))
                            have HR := Lib.hid (And.intro hbel (And.intro hq2 hq))
                            clear hbel hq2 hq Lr Xr hml
                            go_wp2_with (first
                              | ((with_reducible refine wpList_box_u8 (o := ⟨none, .store _ _ _, _, _, _, _⟩) rfl _ _ _ rfl b15 q _ _ (p.getD q 0) _ rfl rfl hbx HOLD.out size_u8 ?_); intro w20 hw20; have HE := Lib.hid hw20; clear hw20)
                              | fail)
                            go_roundw
                            case rel =>
                              refine ⟨q + 1, by have := HR.out.2.1; omega, by go_num, ?_, ?_⟩
                              · rw [HE.out]; exact below_stored HR.out.1 (grown_setCell _ ⟨b15, q, none⟩ _) HR.out.1.size (by rw [HB15.out]; exact Nat.le_refl _)
                              · rw [HE.out, ← mix_set (by rw [HPL.out, HBASE.out.1]) (by rw [HBASE.out.1]; have := HR.out.2.1; omega), bs_set1]; exact hbx.set q _
                            case measure => first | (simp [intOf]; done) | (simp [intOf]; omega)
                          · obtain rfl : q = (min tear 64).toNat := by omega
                            have hend : ¬ (((min tear 64).toNat : Nat) : Int) < 64 ∨ ((((min tear 64).toNat : Nat) : Int) < 64 ∧ ¬ (((min tear 64).toNat : Nat) : Int) < tear) := by omega
                            have HTK := Lib.hid HBASE.out.2
                            have HR := Lib.hid (And.intro Lr Xr)
                            clear hq hq2 Lr Xr hbel
                            generalize mix p BASE (min tear 64).toNat = P9 at hbx hml HTK
                            have hldp := big_load0 Try.prog b15 0 (bs P9) mp (by rw [bs_length, hml, HMP.out]) wr hbx.range0
                            have hwl9 : (wc (z, o, P9)).length = 66 := wc_length hml
                            have hlm9 : (wc (z, o, P9)).length = m := by rw [hwl9, HM.out]
                            have hfold9 := fold_box Try.zeroCells74 66 (wc (z, o, P9)) m (by rw [hwl9, HM.out])
                            clear hbx
                            generalize ((min tear 64).toNat : Nat) = q9 at hend ⊢
                            rcases hend with hend | ⟨hend1, hend2⟩
                            all_goals
                              go_wp2_with (first
                                | (with_reducible refine wpList_build_cell _ (o := ⟨_, .build _ _, _, _, _, _⟩) rfl _ _ rfl z o P9 hml rfl rfl ?_)
                                | (at_builtin; go_loud (refine wpList_append_new _ rfl _ _ _ rfl (w.heap.size + 3) 74 _ 66 80 elemC (.slice A n c) _ _ rfl (wc (z, o, P9)) rfl HR.out.1.own hwl9 (fun u hu => wc_cells hu) (by have := HW.out.2.2.2; simp only [maxLen]; omega) (by have := HW.out.2.2.2; omega) HR.out.1.st.2.2.2.2 ?_); intro v1 w29 hown9 hg9; obtain ⟨A1, c1, rfl⟩ := own_slice hown9; have x9 := HR.out.1.five hg9; have HO9 := Lib.hid (And.intro hown9 hg9); clear hown9 hg9 s7)
                                | ((with_reducible refine wpList_box_slice (o := ⟨none, .store _ _ _, _, _, _, _⟩) rfl _ _ _ rfl b5 7 _ _ A1 _ c1 _ rfl rfl x9 rfl size_rcells ?_); intro w30 hw30)
                                | fail)
                              go_roundw
                              case rel =>
                                refine ⟨k + 1, HLT.out, by go_num, ?_, ?_, A1, n + 1, c1, ?_⟩
                                · rw [HX.out.1, HSTEP.out]
                                · rw [HX.out.1, HSTEP.out]
                                · rw [HX.out.2, HSTEP.out, if_pos HYES.out, HX.out.1, HSTEP.out]
                                  dsimp only
                                  rw [HTK.out]
                                  exact HR.out.1.more1 HO9.out.2 HO9.out.1
                              case measure => have := HLT.out; first | (simp [intOf]; done) | (simp [intOf]; omega)
                    | none =>
                      as_aux_lemma =>
                        have HP2 : Hid (z64.length = 64) := Lib.hid (by rfl)
                        simp only [Option.getD_some, Option.getD_none, Option.isSome_some, Option.isSome_none]
                        go_wp2_with (first
                          | ((with_reducible refine wpList_pg_alloc (o := ⟨some 16, .alloc _, _, _, _, _⟩) rfl rfl ?_); intro w20 x20 hB20 hs20; clear hs20)
                          | ((with_reducible refine wpList_pg_store (o := ⟨none, .store _ _ _, _, _, _, _⟩) rfl _ _ rfl w19.heap.size z64 pg0 HP2.out rfl rfl rfl x20 ?_); intro w21 x21 hg21 hs21; clear hs21; have HB21 := Lib.hid (bthen HB19.out (below_stored hB20 hg21 hB20.size (Nat.le_refl _))); have HX21 := Lib.hid ((HX19.out.on hB20).grown hg21 HNE.out); have l21 := big_load0 Try.prog w19.heap.size 0 (bs z64) mp (by rw [bs_length, HP2.out, HMP.out]) w21 x21.range0; clear x20 hB20 hg21 x21 z7 z8 e0 e7 e8 f0 f1 f2 s7 hldc; have L21 := HL7.out.on HB21.out; have X21 := HX7.out.on HB21.out; have z7 : w21.cell? ⟨wr.heap.size, 0, none⟩ = some (.int .i64 z) := X21.cell 0; have z8 : w21.cell? ⟨wr.heap.size, 1, none⟩ = some (.int .i64 o) := X21.cell 1; have e0 : w21.cell? ⟨w.heap.size, 0, none⟩ = some (.int .i64 conv) := (by rw [← HV.out.1]; exact L21.st.1.kd.1); have e7 : w21.cell? ⟨w.heap.size, 7, none⟩ = some (.slice As ns cs) := (by rw [← HV2.out.2.2.1]; exact L21.st.1.kdv.2.2.1); have e8 : w21.cell? ⟨w.heap.size, 8, none⟩ = some (.slice (some ⟨g, 0, none⟩) (k + 1) cc) := (by rw [← HV2.out.2.2.2]; exact L21.st.1.kdv.2.2.2); have f0 : w21.cell? ⟨w.heap.size + 1, 0, none⟩ = some (.slice keepA kn kc) := L21.st.2.1.cell 0; have f1 : w21.cell? ⟨w.heap.size + 1, 1, none⟩ = some (.int .u64 soft0) := L21.st.2.1.cell 1; have f2 : w21.cell? ⟨w.heap.size + 1, 2, none⟩ = some (.int .i64 tear) := L21.st.2.1.cell 2; have s7 : w21.cell? ⟨b5, 7, none⟩ = some (.slice A n c) := L21.bx.cell 7; have hldc := big_load0 Try.prog wr.heap.size 0 (wc (z, o, p)) m (by rw [hwl, HM.out]) w21 X21.range0; clear L21 X21)
                          | fail)
                        have HB16 := HB21
                        have HBASE : Hid (P1.length = 64 ∧ tornK conv tear d.safe sf (z, o, p) = (z, o, mix p P1 (min tear 64).toNat)) := Lib.hid ⟨HP1.out, by rw [← HPE.out]; exact HB0.out.2.2⟩
                        have hx16 : Box w21 w7.heap.size 42 (bs (mix p P1 0)) := by rw [mix_zero]; exact HX21.out
                        clear HX21 HB21 HB19 HX19 l21 hszp hmp0 HMP
                        generalize P1 = BASE at HBASE hx16
                        have HX16b := Lib.hid hx16
                        clear hx16
                        generalize wr.heap.size = b10 at *
                        obtain ⟨b15, hb15⟩ : ∃ b, b = w7.heap.size := ⟨_, rfl⟩
                        rw [← hb15] at HX16b ⊢
                        have HB15 := Lib.hid hb15
                        obtain ⟨mp, hmp, hszp⟩ := big_size (P := Try.prog) (t := 42) (s := 64) (by kernel_rfl)
                        have hmp0 : ¬ mp = 0 := by omega
                        have HMP := Lib.hid hmp
                        clear hb15 hmp z7 z8 e0 e7 e8 f0 f1 f2 s7 hldc
                        have hpl9 := hpl
                        have HPL := Lib.hid hpl9
                        clear hpl9
                        go_loopw [18] (fun i wt => ∃ q : Nat, q ≤ (min tear 64).toNat ∧ i = .int .i64 q ∧ Below w7.heap.size w7 wt ∧ Box wt b15 42 (bs (mix p BASE q))) (fun i _ => 64 - (intOf i).toNat)
                        case atStart => exact ⟨0, Nat.zero_le _, rfl, HB16.out, HX16b.out⟩
                        case round =>
                          obtain ⟨q, hq, rfl, hbel, hbx⟩ := hrel
                          have Lr := HL7.out.on hbel
                          have Xr := HX7.out.on hbel
                          have z7 : wr.cell? ⟨b10, 0, none⟩ = some (.int .i64 z) := Xr.cell 0
                          have z8 : wr.cell? ⟨b10, 1, none⟩ = some (.int .i64 o) := Xr.cell 1
                          have f2 : wr.cell? ⟨w.heap.size + 1, 2, none⟩ = some (.int .i64 tear) := Lr.st.2.1.cell 2
                          have s7 : wr.cell? ⟨b5, 7, none⟩ = some (.slice A n c) := Lr.bx.cell 7
                          have hml : (mix p BASE q).length = 64 := by rw [mix_length (by rw [HPL.out, HBASE.out.1]) (by rw [HBASE.out.1]; omega), HBASE.out.1]
                          by_cases hq2 : q < (min tear 64).toNat
                          · have hqt : (q : Int) < tear := by omega
                            have hq64 : (q : Int) < 64 := by omega
                            have hpk : wr.cell? ⟨b10, 2 + q, none⟩ = some (.int .u8 (p.getD q 0)) := (Xr.cell (2 + q)).trans (wc_byte (by rw [HPL.out]; omega))
                            have HOLD := Lib.hid (bs_at (p := mix p BASE q) (q := q) (by rw [hml]; omega))
                            have HR := Lib.hid (And.intro hbel (And.intro hq2 hq))
                            clear hbel hq2 hq Lr Xr hml
                            go_wp2_with (first
                              | ((with_reducible refine wpList_box_u8 (o := ⟨none, .store _ _ _, _, _, _, _⟩) rfl _ _ _ rfl b15 q _ _ (p.getD q 0) _ rfl rfl hbx HOLD.out size_u8 ?_); intro w20 hw20; have HE := Lib.hid hw20; clear hw20)
                              | fail)
                            go_roundw
                            case rel =>
                              refine ⟨q + 1, by have := HR.out.2.1; omega, by go_num, ?_, ?_⟩
                              · rw [HE.out]; exact below_stored HR.out.1 (grown_setCell _ ⟨b15, q, none⟩ _) HR.out.1.size (by rw [HB15.out]; exact Nat.le_refl _)
                              · rw [HE.out, ← mix_set (by rw [HPL.out, HBASE.out.1]) (by rw [HBASE.out.1]; have := HR.out.2.1; omega), bs_set1]; exact hbx.set q _
                            case measure => first | (simp [intOf]; done) | (simp [intOf]; omega)
                          · obtain rfl : q = (min tear 64).toNat := by omega
                            have hend : ¬ (((min tear 64).toNat : Nat) : Int) < 64 ∨ ((((min tear 64).toNat : Nat) : Int) < 64 ∧ ¬ (((min tear 64).toNat : Nat) : Int) < tear) := by omega
                            have HTK := Lib.hid HBASE.out.2
                            have HR := Lib.hid (And.intro Lr Xr)
                            clear hq hq2 Lr Xr hbel
                            generalize mix p BASE (min tear 64).toNat = P9 at hbx hml HTK
                            have hldp := big_load0 Try.prog b15 0 (bs P9) mp (by rw [bs_length, hml, HMP.out]) wr hbx.range0
                            have hwl9 : (wc (z, o, P9)).length = 66 := wc_length hml
                            have hlm9 : (wc (z, o, P9)).length = m := by rw [hwl9, HM.out]
                            have hfold9 := fold_box Try.zeroCells74 66 (wc (z, o, P9)) m (by rw [hwl9, HM.out])
                            clear hbx
                            generalize ((min tear 64).toNat : Nat) = q9 at hend ⊢
                            rcases hend with hend | ⟨hend1, hend2⟩
                            all_goals
                              go_wp2_with (first
                                | (with_reducible refine wpList_build_cell _ (o := ⟨_, .build _ _, _, _, _, _⟩) rfl _ _ rfl z o P9 hml rfl rfl ?_)
                                | (at_builtin; go_loud (refine wpList_append_new _ rfl _ _ _ rfl (w.heap.size + 3) 74 _ 66 80 elemC (.slice A n c) _ _ rfl (wc (z, o, P9)) rfl HR.out.1.own hwl9 (fun u hu => wc_cells hu) (by have := HW.out.2.2.2; simp only [maxLen]; omega) (by have := HW.out.2.2.2; omega) HR.out.1.st.2.2.2.2 ?_); intro v1 w29 hown9 hg9; obtain ⟨A1, c1, rfl⟩ := own_slice hown9; have x9 := HR.out.1.five hg9; have HO9 := Lib.hid (And.intro hown9 hg9); clear hown9 hg9 s7)
                                | ((with_reducible refine wpList_box_slice (o := ⟨none, .store _ _ _, _, _, _, _⟩) rfl _ _ _ rfl b5 7 _ _ A1 _ c1 _ rfl rfl x9 rfl size_rcells ?_); intro w30 hw30)
                                | fail)
                              go_roundw
                              case rel =>
                                refine ⟨k + 1, HLT.out, by go_num, ?_, ?_, A1, n + 1, c1, ?_⟩
                                · rw [HX.out.1, HSTEP.out]
                                · rw [HX.out.1, HSTEP.out]
                                · rw [HX.out.2, HSTEP.out, if_pos HYES.out, HX.out.1, HSTEP.out]
                                  dsimp only
                                  rw [HTK.out]
                                  exact HR.out.1.more1 HO9.out.2 HO9.out.1
                              case measure => have := HLT.out; first | (simp [intOf]; done) | (simp [intOf]; omega)
              · have hkz : ¬ (k : Int) = (nc : Int) - 1 := by omega
                have HKL := Lib.hid hlast
                clear hlast
                as_aux_lemma =>
                  go_wp2_with (first
                    | ((with_reducible refine wpList_cell_alloc (o := ⟨some 10, .alloc _, _, _, _, _⟩) rfl rfl ?_); intro w6 x6 hB6 hs6; clear hs6)
                    | ((with_reducible refine wpList_cell_store (o := ⟨none, .store _ _ _, _, _, _, _⟩) rfl _ _ rfl wr.heap.size (z, o, p) c00 hpl rfl rfl rfl x6 ?_); intro w7 x7 hg7 hs7; clear hs7; have hB7 : Below wr.heap.size wr w7 := below_stored hB6 hg7 hB6.size (Nat.le_refl _); have L7 := HL.out.on hB7; have z7 : w7.cell? ⟨wr.heap.size, 0, none⟩ = some (.int .i64 z) := x7.cell 0; have z8 : w7.cell? ⟨wr.heap.size, 1, none⟩ = some (.int .i64 o) := x7.cell 1; have e0 : w7.cell? ⟨w.heap.size, 0, none⟩ = some (.int .i64 conv) := (by rw [← HV.out.1]; exact L7.st.1.kd.1); have e7 : w7.cell? ⟨w.heap.size, 7, none⟩ = some (.slice As ns cs) := (by rw [← HV2.out.2.2.1]; exact L7.st.1.kdv.2.2.1); have e8 : w7.cell? ⟨w.heap.size, 8, none⟩ = some (.slice (some ⟨g, 0, none⟩) nc cc) := (by rw [← HV2.out.2.2.2]; exact L7.st.1.kdv.2.2.2); have f0 : w7.cell? ⟨w.heap.size + 1, 0, none⟩ = some (.slice keepA kn kc) := L7.st.2.1.cell 0; have f1 : w7.cell? ⟨w.heap.size + 1, 1, none⟩ = some (.int .u64 soft0) := L7.st.2.1.cell 1; have f2 : w7.cell? ⟨w.heap.size + 1, 2, none⟩ = some (.int .i64 tear) := L7.st.2.1.cell 2; have s7 : w7.cell? ⟨b5, 7, none⟩ = some (.slice A n c) := L7.bx.cell 7; have hldc := big_load0 Try.prog wr.heap.size 0 (wc (z, o, p)) m (by rw [hwl, HM.out]) w7 x7.range0; have HL7 := Lib.hid L7; have HX7 := Lib.hid x7; clear x6 hB6 hg7 hB7 d8 hld; have x7s := L7.sn; clear L7 x7)
                    | fail)
                  have hstep : ckStep conv keep soft0 ⟨bt, so, sn, sf⟩ (z, o, p) = ⟨bt / 2, so + 1, sn, sf⟩ := by
                    unfold ckStep ckLeft
                    simp [hz, HZ.out.1, HZ.out.2]
                  have hno : ¬ (k + 1 = d.cached.length ∧ ckLeft conv keep soft0 ⟨bt, so, sn, sf⟩ (z, o, p) = false ∧ ckNext conv keep ⟨bt, so, sn, sf⟩ (z, o, p) = true ∧ 0 < tear) := by
                    have := HKL.out
                    have := HN.out.2.2.2.2.2.1
                    omega
                  go_roundw
                  case rel =>
                    refine ⟨k + 1, HLT.out, by go_num, ?_, ?_, A, n, c, ?_⟩
                    · rw [HX.out.1, hstep]
                    · rw [HX.out.1, hstep]
                    · rw [HX.out.2, hstep, if_neg hno, HX.out.1, hstep]
                      exact HL7.out
                  case measure => have := HLT.out; first | (simp [intOf]; done) | (simp [intOf]; omega)
        · obtain ⟨zn, rfl⟩ := Int.eq_ofNat_of_zero_le hzr2.1
          have HZC := Lib.hid hz
          have hzn : zn < 64 := by have := HO.out.1.2.2.1; omega
          have hcv0 : 0 ≤ conv := by have := HO.out.1.1; omega
          have htz := HCK.out.seen zn
          have hsn0 : (ints sn)[zn]? = some (.int .i64 (sn.getD zn 0)) := by
            have hl : zn < sn.length := by have := HCK.out.len; dsimp only at this; omega
            simp [ints, List.getD_eq_getElem?_getD, List.getElem?_eq_getElem hl]
          dsimp only at htz
          have HTZ0 := Lib.hid (show sn.getD zn 0 = sn.getD zn 0 from rfl)
          obtain ⟨tz, HTZ⟩ : ∃ tz, Hid (sn.getD zn 0 = tz) := ⟨_, HTZ0⟩
          rw [HTZ.out] at htz hsn0
          have HSN := Lib.hid hsn0
          clear hsn0 HTZ0
          obtain ⟨j, hj⟩ : ∃ j : Nat, (zn : Int) - conv = j := ⟨((zn : Int) - conv).toNat, by omega⟩
          have HJ := Lib.hid hj
          have htk : tz ≤ 1000 := by omega
          by_cases hjk : j < kn
          · have hjl : j < keep.length := by rw [HK.out.2.1]; exact hjk
            obtain ⟨ad, rfl, hadb, cq⟩ := HK.out.1.at (k := j) (u := .int .i64 (keep.getD j 0)) (by simp [ints, List.getD_eq_getElem?_getD, List.getElem?_eq_getElem hjl])
            have HKEEP0 := Lib.hid (fun (W : World) (hb : Below w.heap.size w W) => (World.cell?_of_block (hb.block _ (by rw [addr_add_block]; exact hadb))).trans cq)
            have HKP2 := Lib.hid (fun h => kp_no2 (keep := keep) (z := (zn : Int)) hj h)
            have HKP3 := Lib.hid (fun h => kp_yes (keep := keep) (z := (zn : Int)) hj hjl h)
            have hjki : (j : Int) < (kn : Int) := by omega
            clear cq hjl
            obtain ⟨y, HY⟩ : ∃ y, Hid (keep.getD j 0 = y) := ⟨_, Lib.hid rfl⟩
            have HKEEP := Lib.hid (fun (W : World) (hb : Below w.heap.size w W) => (show W.cell? (ad.add j) = some (.int .i64 y) by rw [← HY.out]; exact HKEEP0.out W hb))
            clear HKEEP0
            by_cases hy : 0 < y
            · have HKP := Lib.hid (show kpOf conv keep (zn : Int) = y by rw [← HY.out]; exact HKP3.out (by rw [HY.out]; exact hy))
              clear HKP2 HKP3
              by_cases hlf : tz < y
              · have HLF := Lib.hid hlf
                have hnb2 : (tz == y) = false := by have : ¬ tz = y := by omega
                                                    simpa using this
                as_aux_lemma =>
                  go_wp2_with (first
                    | ((with_reducible refine wpList_cell_alloc (o := ⟨some 10, .alloc _, _, _, _, _⟩) rfl rfl ?_); intro w6 x6 hB6 hs6; clear hs6)
                    | ((with_reducible refine wpList_cell_store (o := ⟨none, .store _ _ _, _, _, _, _⟩) rfl _ _ rfl wr.heap.size ((zn : Int), o, p) c00 hpl rfl rfl rfl x6 ?_); intro w7 x7 hg7 hs7; clear hs7; have hB7 : Below wr.heap.size wr w7 := below_stored hB6 hg7 hB6.size (Nat.le_refl _); have L7 := HL.out.on hB7; have z7 : w7.cell? ⟨wr.heap.size, 0, none⟩ = some (.int .i64 (zn : Int)) := x7.cell 0; have z8 : w7.cell? ⟨wr.heap.size, 1, none⟩ = some (.int .i64 o) := x7.cell 1; have e0 : w7.cell? ⟨w.heap.size, 0, none⟩ = some (.int .i64 conv) := (by rw [← HV.out.1]; exact L7.st.1.kd.1); have e7 : w7.cell? ⟨w.heap.size, 7, none⟩ = some (.slice As ns cs) := (by rw [← HV2.out.2.2.1]; exact L7.st.1.kdv.2.2.1); have e8 : w7.cell? ⟨w.heap.size, 8, none⟩ = some (.slice (some ⟨g, 0, none⟩) nc cc) := (by rw [← HV2.out.2.2.2]; exact L7.st.1.kdv.2.2.2); have f0 : w7.cell? ⟨w.heap.size + 1, 0, none⟩ = some (.slice (some ad) kn kc) := L7.st.2.1.cell 0; have f1 : w7.cell? ⟨w.heap.size + 1, 1, none⟩ = some (.int .u64 soft0) := L7.st.2.1.cell 1; have f2 : w7.cell? ⟨w.heap.size + 1, 2, none⟩ = some (.int .i64 tear) := L7.st.2.1.cell 2; have s7 : w7.cell? ⟨b5, 7, none⟩ = some (.slice A n c) := L7.bx.cell 7; have hldc := big_load0 Try.prog wr.heap.size 0 (wc ((zn : Int), o, p)) m (by rw [hwl, HM.out]) w7 x7.range0; have q7 : w7.cell? ⟨b8, zn, none⟩ = some (.int .i64 tz) := (by rw [L7.sn.cell zn]; exact HSN.out); have k7 := HKEEP.out w7 (bthen HL.out.st.2.2.2.1 hB7); have HL7 := Lib.hid L7; have HX7 := Lib.hid x7; clear x6 hB6 hg7 hB7 d8 hld; have x7s := L7.sn; clear L7 x7)
                    | ((with_reducible refine wpList_box_int (o := ⟨none, .store _ _ _, _, _, _, _⟩) rfl _ _ _ rfl b8 zn _ _ (tz + 1) _ rfl rfl x7s HSN.out size_i64 ?_); intro w8 hw8; have L8 := HL7.out.see zn (tz + 1); have X8 := HX7.out.grown (grown_setCell w7 ⟨b8, zn, none⟩ (.int .i64 (tz + 1))) (HX7.out.ne HL7.out.sn (by decide)); rw [← hw8] at L8 X8; clear hw8 z7 z8 e0 e7 e8 f0 f1 f2 s7 hldc q7 x7s k7; have z7 : w8.cell? ⟨wr.heap.size, 0, none⟩ = some (.int .i64 (zn : Int)) := X8.cell 0; have z8 : w8.cell? ⟨wr.heap.size, 1, none⟩ = some (.int .i64 o) := X8.cell 1; have e0 : w8.cell? ⟨w.heap.size, 0, none⟩ = some (.int .i64 conv) := (by rw [← HV.out.1]; exact L8.st.1.kd.1); have e7 : w8.cell? ⟨w.heap.size, 7, none⟩ = some (.slice As ns cs) := (by rw [← HV2.out.2.2.1]; exact L8.st.1.kdv.2.2.1); have e8 : w8.cell? ⟨w.heap.size, 8, none⟩ = some (.slice (some ⟨g, 0, none⟩) nc cc) := (by rw [← HV2.out.2.2.2]; exact L8.st.1.kdv.2.2.2); have f0 : w8.cell? ⟨w.heap.size + 1, 0, none⟩ = some (.slice (some ad) kn kc) := L8.st.2.1.cell 0; have f1 : w8.cell? ⟨w.heap.size + 1, 1, none⟩ = some (.int .u64 soft0) := L8.st.2.1.cell 1; have f2 : w8.cell? ⟨w.heap.size + 1, 2, none⟩ = some (.int .i64 tear) := L8.st.2.1.cell 2; have s7 : w8.cell? ⟨b5, 7, none⟩ = some (.slice A n c) := L8.bx.cell 7; have hldc := big_load0 Try.prog wr.heap.size 0 (wc ((zn : Int), o, p)) m (by rw [hwl, HM.out]) w8 X8.range0; have HL8 := Lib.hid L8; have HX8 := Lib.hid X8; clear L8 X8)
                    | (at_builtin; go_loud (refine wpList_append_new _ rfl _ _ _ rfl (w.heap.size + 3) 74 _ 66 80 elemC (.slice A n c) _ _ rfl (wc ((zn : Int), o, p)) rfl HL8.out.own hwl (fun u hu => wc_cells hu) (by have := HW.out.2.2.2; simp only [maxLen]; omega) (by have := HW.out.2.2.2; omega) HL8.out.st.2.2.2.2 ?_); intro v1 w9 hown9 hg9; obtain ⟨A1, c1, rfl⟩ := own_slice hown9; have x9 := HL8.out.five hg9; have HO9 := Lib.hid (And.intro hown9 hg9); clear hown9 hg9 s7)
                    | ((with_reducible refine wpList_box_slice (o := ⟨none, .store _ _ _, _, _, _, _⟩) rfl _ _ _ rfl b5 7 _ _ A1 _ c1 _ rfl rfl x9 rfl size_rcells ?_); intro w10 hw10)
                    | fail)
                  have hstep : ckStep conv keep soft0 ⟨bt, so, sn, sf⟩ ((zn : Int), o, p) = ⟨bt, so, sn.set zn (tz + 1), sf ++ [((zn : Int), o, p)]⟩ := by
                    exact ckStep_left hz HTZ.out HKP.out HLF.out
                  have hno : ¬ (k + 1 = d.cached.length ∧ ckLeft conv keep soft0 ⟨bt, so, sn, sf⟩ ((zn : Int), o, p) = false ∧ ckNext conv keep ⟨bt, so, sn, sf⟩ ((zn : Int), o, p) = true ∧ 0 < tear) := by
                    rw [ckLeft_seq hz HTZ.out HKP.out, decide_eq_true HLF.out]
                    simp
                  go_roundw
                  case rel =>
                    refine ⟨k + 1, HLT.out, by go_num, ?_, ?_, A1, n + 1, c1, ?_⟩
                    · rw [HX.out.1, hstep]
                    · rw [HX.out.1, hstep]
                    · rw [HX.out.2, hstep, if_neg hno, HX.out.1, hstep]
                      exact HL8.out.more1 HO9.out.2 HO9.out.1
                  case measure => have := HLT.out; first | (simp [intOf]; done) | (simp [intOf]; omega)
              · have HNL := Lib.hid hlf
                by_cases hnx : tz = y
                · have hnb2 : (tz == y) = true := by rw [hnx]; simp
                  have HNX := Lib.hid hnx
                  clear hnx
                  by_cases hlast : k + 1 = nc
                  · subst hlast
                    by_cases ht0 : tear ≤ 0
                    · have HT0 := Lib.hid ht0
                      as_aux_lemma =>
                        go_wp2_with (first
                          | ((with_reducible refine wpList_cell_alloc (o := ⟨some 10, .alloc _, _, _, _, _⟩) rfl rfl ?_); intro w6 x6 hB6 hs6; clear hs6)
                          | ((with_reducible refine wpList_cell_store (o := ⟨none, .store _ _ _, _, _, _, _⟩) rfl _ _ rfl wr.heap.size ((zn : Int), o, p) c00 hpl rfl rfl rfl x6 ?_); intro w7 x7 hg7 hs7; clear hs7; have hB7 : Below wr.heap.size wr w7 := below_stored hB6 hg7 hB6.size (Nat.le_refl _); have L7 := HL.out.on hB7; have z7 : w7.cell? ⟨wr.heap.size, 0, none⟩ = some (.int .i64 (zn : Int)) := x7.cell 0; have z8 : w7.cell? ⟨wr.heap.size, 1, none⟩ = some (.int .i64 o) := x7.cell 1; have e0 : w7.cell? ⟨w.heap.size, 0, none⟩ = some (.int .i64 conv) := (by rw [← HV.out.1]; exact L7.st.1.kd.1); have e7 : w7.cell? ⟨w.heap.size, 7, none⟩ = some (.slice As ns cs) := (by rw [← HV2.out.2.2.1]; exact L7.st.1.kdv.2.2.1); have e8 : w7.cell? ⟨w.heap.size, 8, none⟩ = some (.slice (some ⟨g, 0, none⟩) (k + 1) cc) := (by rw [← HV2.out.2.2.2]; exact L7.st.1.kdv.2.2.2); have f0 : w7.cell? ⟨w.heap.size + 1, 0, none⟩ = some (.slice (some ad) kn kc) := L7.st.2.1.cell 0; have f1 : w7.cell? ⟨w.heap.size + 1, 1, none⟩ = some (.int .u64 soft0) := L7.st.2.1.cell 1; have f2 : w7.cell? ⟨w.heap.size + 1, 2, none⟩ = some (.int .i64 tear) := L7.st.2.1.cell 2; have s7 : w7.cell? ⟨b5, 7, none⟩ = some (.slice A n c) := L7.bx.cell 7; have hldc := big_load0 Try.prog wr.heap.size 0 (wc ((zn : Int), o, p)) m (by rw [hwl, HM.out]) w7 x7.range0; have q7 : w7.cell? ⟨b8, zn, none⟩ = some (.int .i64 tz) := (by rw [L7.sn.cell zn]; exact HSN.out); have k7 := HKEEP.out w7 (bthen HL.out.st.2.2.2.1 hB7); have HL7 := Lib.hid L7; have HX7 := Lib.hid x7; clear x6 hB6 hg7 hB7 d8 hld; have x7s := L7.sn; clear L7 x7)
                          | ((with_reducible refine wpList_box_int (o := ⟨none, .store _ _ _, _, _, _, _⟩) rfl _ _ _ rfl b8 zn _ _ (tz + 1) _ rfl rfl x7s HSN.out size_i64 ?_); intro w8 hw8; have L8 := HL7.out.see zn (tz + 1); have X8 := HX7.out.grown (grown_setCell w7 ⟨b8, zn, none⟩ (.int .i64 (tz + 1))) (HX7.out.ne HL7.out.sn (by decide)); rw [← hw8] at L8 X8; clear hw8 z7 z8 e0 e7 e8 f0 f1 f2 s7 hldc q7 x7s k7; have z7 : w8.cell? ⟨wr.heap.size, 0, none⟩ = some (.int .i64 (zn : Int)) := X8.cell 0; have z8 : w8.cell? ⟨wr.heap.size, 1, none⟩ = some (.int .i64 o) := X8.cell 1; have e0 : w8.cell? ⟨w.heap.size, 0, none⟩ = some (.int .i64 conv) := (by rw [← HV.out.1]; exact L8.st.1.kd.1); have e7 : w8.cell? ⟨w.heap.size, 7, none⟩ = some (.slice As ns cs) := (by rw [← HV2.out.2.2.1]; exact L8.st.1.kdv.2.2.1); have e8 : w8.cell? ⟨w.heap.size, 8, none⟩ = some (.slice (some ⟨g, 0, none⟩) (k + 1) cc) := (by rw [← HV2.out.2.2.2]; exact L8.st.1.kdv.2.2.2); have f0 : w8.cell? ⟨w.heap.size + 1, 0, none⟩ = some (.slice (some ad) kn kc) := L8.st.2.1.cell 0; have f1 : w8.cell? ⟨w.heap.size + 1, 1, none⟩ = some (.int .u64 soft0) := L8.st.2.1.cell 1; have f2 : w8.cell? ⟨w.heap.size + 1, 2, none⟩ = some (.int .i64 tear) := L8.st.2.1.cell 2; have s7 : w8.cell? ⟨b5, 7, none⟩ = some (.slice A n c) := L8.bx.cell 7; have hldc := big_load0 Try.prog wr.heap.size 0 (wc ((zn : Int), o, p)) m (by rw [hwl, HM.out]) w8 X8.range0; have HL8 := Lib.hid L8; have HX8 := Lib.hid X8; clear L8 X8)
                          | fail)
                        have hstep : ckStep conv keep soft0 ⟨bt, so, sn, sf⟩ ((zn : Int), o, p) = ⟨bt, so, sn.set zn (tz + 1), sf⟩ := by
                          exact ckStep_not hz HTZ.out HKP.out HNL.out
                        have hno : ¬ (k + 1 = d.cached.length ∧ ckLeft conv keep soft0 ⟨bt, so, sn, sf⟩ ((zn : Int), o, p) = false ∧ ckNext conv keep ⟨bt, so, sn, sf⟩ ((zn : Int), o, p) = true ∧ 0 < tear) := by
                          have := HT0.out
                          omega
                        go_roundw
                        case rel =>
                          refine ⟨k + 1, HLT.out, by go_num, ?_, ?_, A, n, c, ?_⟩
                          · rw [HX.out.1, hstep]
                          · rw [HX.out.1, hstep]
                          · rw [HX.out.2, hstep, if_neg hno, HX.out.1, hstep]
                            exact HL8.out
                        case measure => have := HLT.out; first | (simp [intOf]; done) | (simp [intOf]; omega)
                    · have ht1 : 0 < tear := by omega
                      have HT1 := Lib.hid ht1
                      as_aux_lemma =>
                        go_wp2_with (first
                          | ((with_reducible refine wpList_cell_alloc (o := ⟨some 10, .alloc _, _, _, _, _⟩) rfl rfl ?_); intro w6 x6 hB6 hs6; clear hs6)
                          | ((with_reducible refine wpList_cell_store (o := ⟨none, .store _ _ _, _, _, _, _⟩) rfl _ _ rfl wr.heap.size ((zn : Int), o, p) c00 hpl rfl rfl rfl x6 ?_); intro w7 x7 hg7 hs7; clear hs7; have hB7 : Below wr.heap.size wr w7 := below_stored hB6 hg7 hB6.size (Nat.le_refl _); have L7 := HL.out.on hB7; have z7 : w7.cell? ⟨wr.heap.size, 0, none⟩ = some (.int .i64 (zn : Int)) := x7.cell 0; have z8 : w7.cell? ⟨wr.heap.size, 1, none⟩ = some (.int .i64 o) := x7.cell 1; have e0 : w7.cell? ⟨w.heap.size, 0, none⟩ = some (.int .i64 conv) := (by rw [← HV.out.1]; exact L7.st.1.kd.1); have e7 : w7.cell? ⟨w.heap.size, 7, none⟩ = some (.slice As ns cs) := (by rw [← HV2.out.2.2.1]; exact L7.st.1.kdv.2.2.1); have e8 : w7.cell? ⟨w.heap.size, 8, none⟩ = some (.slice (some ⟨g, 0, none⟩) (k + 1) cc) := (by rw [← HV2.out.2.2.2]; exact L7.st.1.kdv.2.2.2); have f0 : w7.cell? ⟨w.heap.size + 1, 0, none⟩ = some (.slice (some ad) kn kc) := L7.st.2.1.cell 0; have f1 : w7.cell? ⟨w.heap.size + 1, 1, none⟩ = some (.int .u64 soft0) := L7.st.2.1.cell 1; have f2 : w7.cell? ⟨w.heap.size + 1, 2, none⟩ = some (.int .i64 tear) := L7.st.2.1.cell 2; have s7 : w7.cell? ⟨b5, 7, none⟩ = some (.slice A n c) := L7.bx.cell 7; have hldc := big_load0 Try.prog wr.heap.size 0 (wc ((zn : Int), o, p)) m (by rw [hwl, HM.out]) w7 x7.range0; have q7 : w7.cell? ⟨b8, zn, none⟩ = some (.int .i64 tz) := (by rw [L7.sn.cell zn]; exact HSN.out); have k7 := HKEEP.out w7 (bthen HL.out.st.2.2.2.1 hB7); have HL7 := Lib.hid L7; have HX7 := Lib.hid x7; clear x6 hB6 hg7 hB7 d8 hld; have x7s := L7.sn; clear L7 x7)
                          | ((with_reducible refine wpList_box_int (o := ⟨none, .store _ _ _, _, _, _, _⟩) rfl _ _ _ rfl b8 zn _ _ (tz + 1) _ rfl rfl x7s HSN.out size_i64 ?_); intro w8 hw8; have L8 := HL7.out.see zn (tz + 1); have X8 := HX7.out.grown (grown_setCell w7 ⟨b8, zn, none⟩ (.int .i64 (tz + 1))) (HX7.out.ne HL7.out.sn (by decide)); rw [← hw8] at L8 X8; clear hw8 z7 z8 e0 e7 e8 f0 f1 f2 s7 hldc q7 x7s k7; have z7 : w8.cell? ⟨wr.heap.size, 0, none⟩ = some (.int .i64 (zn : Int)) := X8.cell 0; have z8 : w8.cell? ⟨wr.heap.size, 1, none⟩ = some (.int .i64 o) := X8.cell 1; have e0 : w8.cell? ⟨w.heap.size, 0, none⟩ = some (.int .i64 conv) := (by rw [← HV.out.1]; exact L8.st.1.kd.1); have e7 : w8.cell? ⟨w.heap.size, 7, none⟩ = some (.slice As ns cs) := (by rw [← HV2.out.2.2.1]; exact L8.st.1.kdv.2.2.1); have e8 : w8.cell? ⟨w.heap.size, 8, none⟩ = some (.slice (some ⟨g, 0, none⟩) (k + 1) cc) := (by rw [← HV2.out.2.2.2]; exact L8.st.1.kdv.2.2.2); have f0 : w8.cell? ⟨w.heap.size + 1, 0, none⟩ = some (.slice (some ad) kn kc) := L8.st.2.1.cell 0; have f1 : w8.cell? ⟨w.heap.size + 1, 1, none⟩ = some (.int .u64 soft0) := L8.st.2.1.cell 1; have f2 : w8.cell? ⟨w.heap.size + 1, 2, none⟩ = some (.int .i64 tear) := L8.st.2.1.cell 2; have s7 : w8.cell? ⟨b5, 7, none⟩ = some (.slice A n c) := L8.bx.cell 7; have hldc := big_load0 Try.prog wr.heap.size 0 (wc ((zn : Int), o, p)) m (by rw [hwl, HM.out]) w8 X8.range0; have HL8 := Lib.hid L8; have HX8 := Lib.hid X8; clear L8 X8)
                          | (with_reducible refine wpList_build_zero _ (o := ⟨_, .build _ _, _, _, _, _⟩) rfl _ rfl (bs z64) pg_build ?_)
                          | ((with_reducible refine wpList_pg_alloc (o := ⟨some 15, .alloc _, _, _, _, _⟩) rfl rfl ?_); intro w15 x15 hB15 hs15; clear hs15)
                          | ((with_reducible refine wpList_pg_store (o := ⟨none, .store _ _ _, _, _, _, _⟩) rfl _ _ rfl w8.heap.size z64 pg0 rfl rfl rfl rfl x15 ?_); intro w16 x16 hg16 hs16; clear hs16; have HB16 := Lib.hid (below_stored hB15 hg16 hB15.size (Nat.le_refl _)); have HX16 := Lib.hid x16; clear x15 hB15 hg16 x16 z7 z8 e0 e7 e8 f0 f1 f2 s7 hldc; have L16 := HL8.out.on HB16.out; have X16 := HX8.out.on HB16.out; have z7 : w16.cell? ⟨wr.heap.size, 0, none⟩ = some (.int .i64 (zn : Int)) := X16.cell 0; have z8 : w16.cell? ⟨wr.heap.size, 1, none⟩ = some (.int .i64 o) := X16.cell 1; have e0 : w16.cell? ⟨w.heap.size, 0, none⟩ = some (.int .i64 conv) := (by rw [← HV.out.1]; exact L16.st.1.kd.1); have e7 : w16.cell? ⟨w.heap.size, 7, none⟩ = some (.slice As ns cs) := (by rw [← HV2.out.2.2.1]; exact L16.st.1.kdv.2.2.1); have e8 : w16.cell? ⟨w.heap.size, 8, none⟩ = some (.slice (some ⟨g, 0, none⟩) (k + 1) cc) := (by rw [← HV2.out.2.2.2]; exact L16.st.1.kdv.2.2.2); have f0 : w16.cell? ⟨w.heap.size + 1, 0, none⟩ = some (.slice (some ad) kn kc) := L16.st.2.1.cell 0; have f1 : w16.cell? ⟨w.heap.size + 1, 1, none⟩ = some (.int .u64 soft0) := L16.st.2.1.cell 1; have f2 : w16.cell? ⟨w.heap.size + 1, 2, none⟩ = some (.int .i64 tear) := L16.st.2.1.cell 2; have s7 : w16.cell? ⟨b5, 7, none⟩ = some (.slice A n c) := L16.bx.cell 7; have hldc := big_load0 Try.prog wr.heap.size 0 (wc ((zn : Int), o, p)) m (by rw [hwl, HM.out]) w16 X16.range0; clear L16 X16)
                          | fail)
                        have HSTEP := Lib.hid (show ckStep conv keep soft0 ⟨bt, so, sn, sf⟩ ((zn : Int), o, p) = ⟨bt, so, sn.set zn (tz + 1), sf⟩ by
                          exact ckStep_not (by have := HZC.out; omega) HTZ.out HKP.out (by have := HNL.out; omega))
                        have HYES := Lib.hid (show k + 1 = d.cached.length ∧ ckLeft conv keep soft0 ⟨bt, so, sn, sf⟩ ((zn : Int), o, p) = false ∧ ckNext conv keep ⟨bt, so, sn, sf⟩ ((zn : Int), o, p) = true ∧ 0 < tear by
                          refine ⟨HN.out.2.2.2.2.2.1.symm, ?_, ?_, HT1.out⟩
                          · rw [ckLeft_seq (by have := HZC.out; omega) HTZ.out HKP.out, decide_eq_false (by have := HNL.out; omega)]
                          · rw [ckNext_seq (by have := HZC.out; omega) HTZ.out HKP.out, HNX.out]; simp)
                        have HBASE := Lib.hid (show z64.length = 64 ∧ tornK conv tear d.safe sf ((zn : Int), o, p) = ((zn : Int), o, mix p z64 (min tear 64).toNat) from ⟨rfl, by unfold tornK; dsimp only; rw [if_neg (by have := HZC.out; omega)]; rfl⟩)
                        have hx16z := HX16.out
                        generalize z64 = BASE at HBASE hx16z
                        have hx16 : Box w16 w8.heap.size 42 (bs (mix p BASE 0)) := by rw [mix_zero]; exact hx16z
                        have HX16b := Lib.hid hx16
                        clear hx16 HX16 hx16z
                        generalize wr.heap.size = b10 at *
                        obtain ⟨b15, hb15⟩ : ∃ b, b = w8.heap.size := ⟨_, rfl⟩
                        rw [← hb15] at HX16b ⊢
                        have HB15 := Lib.hid hb15
                        obtain ⟨mp, hmp, hszp⟩ := big_size (P := Try.prog) (t := 42) (s := 64) (by kernel_rfl)
                        have hmp0 : ¬ mp = 0 := by omega
                        have HMP := Lib.hid hmp
                        clear hb15 hmp z7 z8 e0 e7 e8 f0 f1 f2 s7 hldc
                        have hpl9 := hpl
                        have HPL := Lib.hid hpl9
                        clear hpl9
                        go_loopw [18] (fun i wt => ∃ q : Nat, q ≤ (min tear 64).toNat ∧ i = .int .i64 q ∧ Below w8.heap.size w8 wt ∧ Box wt b15 42 (bs (mix p BASE q))) (fun i _ => 64 - (intOf i).toNat)
                        case atStart => exact ⟨0, Nat.zero_le _, rfl, HB16.out, HX16b.out⟩
                        case round =>
                          obtain ⟨q, hq, rfl, hbel, hbx⟩ := hrel
                          have Lr := HL8.out.on hbel
                          have Xr := HX8.out.on hbel
                          have z7 : wr.cell? ⟨b10, 0, none⟩ = some (.int .i64 (zn : Int)) := Xr.cell 0
                          have z8 : wr.cell? ⟨b10, 1, none⟩ = some (.int .i64 o) := Xr.cell 1
                          have f2 : wr.cell? ⟨w.heap.size + 1, 2, none⟩ = some (.int .i64 tear) := Lr.st.2.1.cell 2
                          have s7 : wr.cell? ⟨b5, 7, none⟩ = some (.slice A n c) := Lr.bx.cell 7
                          have hml : (mix p BASE q).length = 64 := by rw [mix_length (by rw [HPL.out, HBASE.out.1]) (by rw [HBASE.out.1]; omega), HBASE.out.1]
                          by_cases hq2 : q < (min tear 64).toNat
                          · have hqt : (q : Int) < tear := by omega
                            have hq64 : (q : Int) < 64 := by omega
                            have hpk : wr.cell? ⟨b10, 2 + q, none⟩ = some (.int .u8 (p.getD q 0)) := (Xr.cell (2 + q)).trans (wc_byte (by rw [HPL.out]; omega))
                            have HOLD := Lib.hid (bs_at (p := mix p BASE q) (q := q) (by rw [hml]; omega))
                            have HR := Lib.hid (And.intro hbel (And.intro hq2 hq))
                            clear hbel hq2 hq Lr Xr hml
                            go_wp2_with (first
                              | ((with_reducible refine wpList_box_u8 (o := ⟨none, .store _ _ _, _, _, _, _⟩) rfl _ _ _ rfl b15 q _ _ (p.getD q 0) _ rfl rfl hbx HOLD.out size_u8 ?_); intro w20 hw20; have HE := Lib.hid hw20; clear hw20)
                              | fail)
                            go_roundw
                            case rel =>
                              refine ⟨q + 1, by have := HR.out.2.1; omega, by go_num, ?_, ?_⟩
                              · rw [HE.out]; exact below_stored HR.out.1 (grown_setCell _ ⟨b15, q, none⟩ _) HR.out.1.size (by rw [HB15.out]; exact Nat.le_refl _)
                              · rw [HE.out, ← mix_set (by rw [HPL.out, HBASE.out.1]) (by rw [HBASE.out.1]; have := HR.out.2.1; omega), bs_set1]; exact hbx.set q _
                            case measure => first | (simp [intOf]; done) | (simp [intOf]; omega)
                          · obtain rfl : q = (min tear 64).toNat := by omega
                            have hend : ¬ (((min tear 64).toNat : Nat) : Int) < 64 ∨ ((((min tear 64).toNat : Nat) : Int) < 64 ∧ ¬ (((min tear 64).toNat : Nat) : Int) < tear) := by omega
                            have HTK := Lib.hid HBASE.out.2
                            have HR := Lib.hid (And.intro Lr Xr)
                            clear hq hq2 Lr Xr hbel
                            generalize mix p BASE (min tear 64).toNat = P9 at hbx hml HTK
                            have hldp := big_load0 Try.prog b15 0 (bs P9) mp (by rw [bs_length, hml, HMP.out]) wr hbx.range0
                            have hwl9 : (wc ((zn : Int), o, P9)).length = 66 := wc_length hml
                            have hlm9 : (wc ((zn : Int), o, P9)).length = m := by rw [hwl9, HM.out]
                            have hfold9 := fold_box Try.zeroCells74 66 (wc ((zn : Int), o, P9)) m (by rw [hwl9, HM.out])
                            clear hbx
                            generalize ((min tear 64).toNat : Nat) = q9 at hend ⊢
                            rcases hend with hend | ⟨hend1, hend2⟩
                            all_goals
                              go_wp2_with (first
                                | (with_reducible refine wpList_build_cell _ (o := ⟨_, .build _ _, _, _, _, _⟩) rfl _ _ rfl (zn : Int) o P9 hml rfl rfl ?_)
                                | (at_builtin; go_loud (refine wpList_append_new _ rfl _ _ _ rfl (w.heap.size + 3) 74 _ 66 80 elemC (.slice A n c) _ _ rfl (wc ((zn : Int), o, P9)) rfl HR.out.1.own hwl9 (fun u hu => wc_cells hu) (by have := HW.out.2.2.2; simp only [maxLen]; omega) (by have := HW.out.2.2.2; omega) HR.out.1.st.2.2.2.2 ?_); intro v1 w29 hown9 hg9; obtain ⟨A1, c1, rfl⟩ := own_slice hown9; have x9 := HR.out.1.five hg9; have HO9 := Lib.hid (And.intro hown9 hg9); clear hown9 hg9 s7)
                                | ((with_reducible refine wpList_box_slice (o := ⟨none, .store _ _ _, _, _, _, _⟩) rfl _ _ _ rfl b5 7 _ _ A1 _ c1 _ rfl rfl x9 rfl size_rcells ?_); intro w30 hw30)
                                | fail)
                              go_roundw
                              case rel =>
                                refine ⟨k + 1, HLT.out, by go_num, ?_, ?_, A1, n + 1, c1, ?_⟩
                                · rw [HX.out.1, HSTEP.out]
                                · rw [HX.out.1, HSTEP.out]
                                · rw [HX.out.2, HSTEP.out, if_pos HYES.out, HX.out.1, HSTEP.out]
                                  dsimp only
                                  rw [HTK.out]
                                  exact HR.out.1.more1 HO9.out.2 HO9.out.1
                              case measure => have := HLT.out; first | (simp [intOf]; done) | (simp [intOf]; omega)
                  · have hkz : ¬ (k : Int) = (nc : Int) - 1 := by omega
                    have HKL := Lib.hid hlast
                    clear hlast
                    as_aux_lemma =>
                      go_wp2_with (first
                        | ((with_reducible refine wpList_cell_alloc (o := ⟨some 10, .alloc _, _, _, _, _⟩) rfl rfl ?_); intro w6 x6 hB6 hs6; clear hs6)
                        | ((with_reducible refine wpList_cell_store (o := ⟨none, .store _ _ _, _, _, _, _⟩) rfl _ _ rfl wr.heap.size ((zn : Int), o, p) c00 hpl rfl rfl rfl x6 ?_); intro w7 x7 hg7 hs7; clear hs7; have hB7 : Below wr.heap.size wr w7 := below_stored hB6 hg7 hB6.size (Nat.le_refl _); have L7 := HL.out.on hB7; have z7 : w7.cell? ⟨wr.heap.size, 0, none⟩ = some (.int .i64 (zn : Int)) := x7.cell 0; have z8 : w7.cell? ⟨wr.heap.size, 1, none⟩ = some (.int .i64 o) := x7.cell 1; have e0 : w7.cell? ⟨w.heap.size, 0, none⟩ = some (.int .i64 conv) := (by rw [← HV.out.1]; exact L7.st.1.kd.1); have e7 : w7.cell? ⟨w.heap.size, 7, none⟩ = some (.slice As ns cs) := (by rw [← HV2.out.2.2.1]; exact L7.st.1.kdv.2.2.1); have e8 : w7.cell? ⟨w.heap.size, 8, none⟩ = some (.slice (some ⟨g, 0, none⟩) nc cc) := (by rw [← HV2.out.2.2.2]; exact L7.st.1.kdv.2.2.2); have f0 : w7.cell? ⟨w.heap.size + 1, 0, none⟩ = some (.slice (some ad) kn kc) := L7.st.2.1.cell 0; have f1 : w7.cell? ⟨w.heap.size + 1, 1, none⟩ = some (.int .u64 soft0) := L7.st.2.1.cell 1; have f2 : w7.cell? ⟨w.heap.size + 1, 2, none⟩ = some (.int .i64 tear) := L7.st.2.1.cell 2; have s7 : w7.cell? ⟨b5, 7, none⟩ = some (.slice A n c) := L7.bx.cell 7; have hldc := big_load0 Try.prog wr.heap.size 0 (wc ((zn : Int), o, p)) m (by rw [hwl, HM.out]) w7 x7.range0; have q7 : w7.cell? ⟨b8, zn, none⟩ = some (.int .i64 tz) := (by rw [L7.sn.cell zn]; exact HSN.out); have k7 := HKEEP.out w7 (bthen HL.out.st.2.2.2.1 hB7); have HL7 := Lib.hid L7; have HX7 := Lib.hid x7; clear x6 hB6 hg7 hB7 d8 hld; have x7s := L7.sn; clear L7 x7)
                        | ((with_reducible refine wpList_box_int (o := ⟨none, .store _ _ _, _, _, _, _⟩) rfl _ _ _ rfl b8 zn _ _ (tz + 1) _ rfl rfl x7s HSN.out size_i64 ?_); intro w8 hw8; have L8 := HL7.out.see zn (tz + 1); have X8 := HX7.out.grown (grown_setCell w7 ⟨b8, zn, none⟩ (.int .i64 (tz + 1))) (HX7.out.ne HL7.out.sn (by decide)); rw [← hw8] at L8 X8; clear hw8 z7 z8 e0 e7 e8 f0 f1 f2 s7 hldc q7 x7s k7; have z7 : w8.cell? ⟨wr.heap.size, 0, none⟩ = some (.int .i64 (zn : Int)) := X8.cell 0; have z8 : w8.cell? ⟨wr.heap.size, 1, none⟩ = some (.int .i64 o) := X8.cell 1; have e0 : w8.cell? ⟨w.heap.size, 0, none⟩ = some (.int .i64 conv) := (by rw [← HV.out.1]; exact L8.st.1.kd.1); have e7 : w8.cell? ⟨w.heap.size, 7, none⟩ = some (.slice As ns cs) := (by rw [← HV2.out.2.2.1]; exact L8.st.1.kdv.2.2.1); have e8 : w8.cell? ⟨w.heap.size, 8, none⟩ = some (.slice (some ⟨g, 0, none⟩) nc cc) := (by rw [← HV2.out.2.2.2]; exact L8.st.1.kdv.2.2.2); have f0 : w8.cell? ⟨w.heap.size + 1, 0, none⟩ = some (.slice (some ad) kn kc) := L8.st.2.1.cell 0; have f1 : w8.cell? ⟨w.heap.size + 1, 1, none⟩ = some (.int .u64 soft0) := L8.st.2.1.cell 1; have f2 : w8.cell? ⟨w.heap.size + 1, 2, none⟩ = some (.int .i64 tear) := L8.st.2.1.cell 2; have s7 : w8.cell? ⟨b5, 7, none⟩ = some (.slice A n c) := L8.bx.cell 7; have hldc := big_load0 Try.prog wr.heap.size 0 (wc ((zn : Int), o, p)) m (by rw [hwl, HM.out]) w8 X8.range0; have HL8 := Lib.hid L8; have HX8 := Lib.hid X8; clear L8 X8)
                        | fail)
                      have hstep : ckStep conv keep soft0 ⟨bt, so, sn, sf⟩ ((zn : Int), o, p) = ⟨bt, so, sn.set zn (tz + 1), sf⟩ := by
                        exact ckStep_not hz HTZ.out HKP.out HNL.out
                      have hno : ¬ (k + 1 = d.cached.length ∧ ckLeft conv keep soft0 ⟨bt, so, sn, sf⟩ ((zn : Int), o, p) = false ∧ ckNext conv keep ⟨bt, so, sn, sf⟩ ((zn : Int), o, p) = true ∧ 0 < tear) := by
                        have := HKL.out
                        have := HN.out.2.2.2.2.2.1
                        omega
                      go_roundw
                      case rel =>
                        refine ⟨k + 1, HLT.out, by go_num, ?_, ?_, A, n, c, ?_⟩
                        · rw [HX.out.1, hstep]
                        · rw [HX.out.1, hstep]
                        · rw [HX.out.2, hstep, if_neg hno, HX.out.1, hstep]
                          exact HL8.out
                      case measure => have := HLT.out; first | (simp [intOf]; done) | (simp [intOf]; omega)
                · have hnb2 : (tz == y) = false := by simpa using hnx
                  have HNX := Lib.hid hnb2
                  clear hnx
                  as_aux_lemma =>
                    go_wp2_with (first
                      | ((with_reducible refine wpList_cell_alloc (o := ⟨some 10, .alloc _, _, _, _, _⟩) rfl rfl ?_); intro w6 x6 hB6 hs6; clear hs6)
                      | ((with_reducible refine wpList_cell_store (o := ⟨none, .store _ _ _, _, _, _, _⟩) rfl _ _ rfl wr.heap.size ((zn : Int), o, p) c00 hpl rfl rfl rfl x6 ?_); intro w7 x7 hg7 hs7; clear hs7; have hB7 : Below wr.heap.size wr w7 := below_stored hB6 hg7 hB6.size (Nat.le_refl _); have L7 := HL.out.on hB7; have z7 : w7.cell? ⟨wr.heap.size, 0, none⟩ = some (.int .i64 (zn : Int)) := x7.cell 0; have z8 : w7.cell? ⟨wr.heap.size, 1, none⟩ = some (.int .i64 o) := x7.cell 1; have e0 : w7.cell? ⟨w.heap.size, 0, none⟩ = some (.int .i64 conv) := (by rw [← HV.out.1]; exact L7.st.1.kd.1); have e7 : w7.cell? ⟨w.heap.size, 7, none⟩ = some (.slice As ns cs) := (by rw [← HV2.out.2.2.1]; exact L7.st.1.kdv.2.2.1); have e8 : w7.cell? ⟨w.heap.size, 8, none⟩ = some (.slice (some ⟨g, 0, none⟩) nc cc) := (by rw [← HV2.out.2.2.2]; exact L7.st.1.kdv.2.2.2); have f0 : w7.cell? ⟨w.heap.size + 1, 0, none⟩ = some (.slice (some ad) kn kc) := L7.st.2.1.cell 0; have f1 : w7.cell? ⟨w.heap.size + 1, 1, none⟩ = some (.int .u64 soft0) := L7.st.2.1.cell 1; have f2 : w7.cell? ⟨w.heap.size + 1, 2, none⟩ = some (.int .i64 tear) := L7.st.2.1.cell 2; have s7 : w7.cell? ⟨b5, 7, none⟩ = some (.slice A n c) := L7.bx.cell 7; have hldc := big_load0 Try.prog wr.heap.size 0 (wc ((zn : Int), o, p)) m (by rw [hwl, HM.out]) w7 x7.range0; have q7 : w7.cell? ⟨b8, zn, none⟩ = some (.int .i64 tz) := (by rw [L7.sn.cell zn]; exact HSN.out); have k7 := HKEEP.out w7 (bthen HL.out.st.2.2.2.1 hB7); have HL7 := Lib.hid L7; have HX7 := Lib.hid x7; clear x6 hB6 hg7 hB7 d8 hld; have x7s := L7.sn; clear L7 x7)
                      | ((with_reducible refine wpList_box_int (o := ⟨none, .store _ _ _, _, _, _, _⟩) rfl _ _ _ rfl b8 zn _ _ (tz + 1) _ rfl rfl x7s HSN.out size_i64 ?_); intro w8 hw8; have L8 := HL7.out.see zn (tz + 1); have X8 := HX7.out.grown (grown_setCell w7 ⟨b8, zn, none⟩ (.int .i64 (tz + 1))) (HX7.out.ne HL7.out.sn (by decide)); rw [← hw8] at L8 X8; clear hw8 z7 z8 e0 e7 e8 f0 f1 f2 s7 hldc q7 x7s k7; have z7 : w8.cell? ⟨wr.heap.size, 0, none⟩ = some (.int .i64 (zn : Int)) := X8.cell 0; have z8 : w8.cell? ⟨wr.heap.size, 1, none⟩ = some (.int .i64 o) := X8.cell 1; have e0 : w8.cell? ⟨w.heap.size, 0, none⟩ = some (.int .i64 conv) := (by rw [← HV.out.1]; exact L8.st.1.kd.1); have e7 : w8.cell? ⟨w.heap.size, 7, none⟩ = some (.slice As ns cs) := (by rw [← HV2.out.2.2.1]; exact L8.st.1.kdv.2.2.1); have e8 : w8.cell? ⟨w.heap.size, 8, none⟩ = some (.slice (some ⟨g, 0, none⟩) nc cc) := (by rw [← HV2.out.2.2.2]; exact L8.st.1.kdv.2.2.2); have f0 : w8.cell? ⟨w.heap.size + 1, 0, none⟩ = some (.slice (some ad) kn kc) := L8.st.2.1.cell 0; have f1 : w8.cell? ⟨w.heap.size + 1, 1, none⟩ = some (.int .u64 soft0) := L8.st.2.1.cell 1; have f2 : w8.cell? ⟨w.heap.size + 1, 2, none⟩ = some (.int .i64 tear) := L8.st.2.1.cell 2; have s7 : w8.cell? ⟨b5, 7, none⟩ = some (.slice A n c) := L8.bx.cell 7; have hldc := big_load0 Try.prog wr.heap.size 0 (wc ((zn : Int), o, p)) m (by rw [hwl, HM.out]) w8 X8.range0; have HL8 := Lib.hid L8; have HX8 := Lib.hid X8; clear L8 X8)
                      | fail)
                    have hstep : ckStep conv keep soft0 ⟨bt, so, sn, sf⟩ ((zn : Int), o, p) = ⟨bt, so, sn.set zn (tz + 1), sf⟩ := by
                      exact ckStep_not hz HTZ.out HKP.out HNL.out
                    have hno : ¬ (k + 1 = d.cached.length ∧ ckLeft conv keep soft0 ⟨bt, so, sn, sf⟩ ((zn : Int), o, p) = false ∧ ckNext conv keep ⟨bt, so, sn, sf⟩ ((zn : Int), o, p) = true ∧ 0 < tear) := by
                      rw [ckNext_seq hz HTZ.out HKP.out, HNX.out]
                      simp
                    go_roundw
                    case rel =>
                      refine ⟨k + 1, HLT.out, by go_num, ?_, ?_, A, n, c, ?_⟩
                      · rw [HX.out.1, hstep]
                      · rw [HX.out.1, hstep]
                      · rw [HX.out.2, hstep, if_neg hno, HX.out.1, hstep]
                        exact HL8.out
                    case measure => have := HLT.out; first | (simp [intOf]; done) | (simp [intOf]; omega)
            · have hy0 : y ≤ 0 := by omega
              have HKP := Lib.hid (show kpOf conv keep (zn : Int) = 0 from HKP2.out (by rw [HY.out]; exact hy0))
              clear HKP2 HKP3 hy
              have hlf : ¬ tz < 0 := by omega
              have HNL := Lib.hid hlf
              by_cases hnx : tz = 0
              · have hnb2 : (tz == 0) = true := by rw [hnx]; simp
                have HNX := Lib.hid hnx
                clear hnx
                by_cases hlast : k + 1 = nc
                · subst hlast
                  by_cases ht0 : tear ≤ 0
                  · have HT0 := Lib.hid ht0
                    as_aux_lemma =>
                      go_wp2_with (first
                        | ((with_reducible refine wpList_cell_alloc (o := ⟨some 10, .alloc _, _, _, _, _⟩) rfl rfl ?_); intro w6 x6 hB6 hs6; clear hs6)
                        | ((with_reducible refine wpList_cell_store (o := ⟨none, .store _ _ _, _, _, _, _⟩) rfl _ _ rfl wr.heap.size ((zn : Int), o, p) c00 hpl rfl rfl rfl x6 ?_); intro w7 x7 hg7 hs7; clear hs7; have hB7 : Below wr.heap.size wr w7 := below_stored hB6 hg7 hB6.size (Nat.le_refl _); have L7 := HL.out.on hB7; have z7 : w7.cell? ⟨wr.heap.size, 0, none⟩ = some (.int .i64 (zn : Int)) := x7.cell 0; have z8 : w7.cell? ⟨wr.heap.size, 1, none⟩ = some (.int .i64 o) := x7.cell 1; have e0 : w7.cell? ⟨w.heap.size, 0, none⟩ = some (.int .i64 conv) := (by rw [← HV.out.1]; exact L7.st.1.kd.1); have e7 : w7.cell? ⟨w.heap.size, 7, none⟩ = some (.slice As ns cs) := (by rw [← HV2.out.2.2.1]; exact L7.st.1.kdv.2.2.1); have e8 : w7.cell? ⟨w.heap.size, 8, none⟩ = some (.slice (some ⟨g, 0, none⟩) (k + 1) cc) := (by rw [← HV2.out.2.2.2]; exact L7.st.1.kdv.2.2.2); have f0 : w7.cell? ⟨w.heap.size + 1, 0, none⟩ = some (.slice (some ad) kn kc) := L7.st.2.1.cell 0; have f1 : w7.cell? ⟨w.heap.size + 1, 1, none⟩ = some (.int .u64 soft0) := L7.st.2.1.cell 1; have f2 : w7.cell? ⟨w.heap.size + 1, 2, none⟩ = some (.int .i64 tear) := L7.st.2.1.cell 2; have s7 : w7.cell? ⟨b5, 7, none⟩ = some (.slice A n c) := L7.bx.cell 7; have hldc := big_load0 Try.prog wr.heap.size 0 (wc ((zn : Int), o, p)) m (by rw [hwl, HM.out]) w7 x7.range0; have q7 : w7.cell? ⟨b8, zn, none⟩ = some (.int .i64 tz) := (by rw [L7.sn.cell zn]; exact HSN.out); have k7 := HKEEP.out w7 (bthen HL.out.st.2.2.2.1 hB7); have HL7 := Lib.hid L7; have HX7 := Lib.hid x7; clear x6 hB6 hg7 hB7 d8 hld; have x7s := L7.sn; clear L7 x7)
                        | ((with_reducible refine wpList_box_int (o := ⟨none, .store _ _ _, _, _, _, _⟩) rfl _ _ _ rfl b8 zn _ _ (tz + 1) _ rfl rfl x7s HSN.out size_i64 ?_); intro w8 hw8; have L8 := HL7.out.see zn (tz + 1); have X8 := HX7.out.grown (grown_setCell w7 ⟨b8, zn, none⟩ (.int .i64 (tz + 1))) (HX7.out.ne HL7.out.sn (by decide)); rw [← hw8] at L8 X8; clear hw8 z7 z8 e0 e7 e8 f0 f1 f2 s7 hldc q7 x7s k7; have z7 : w8.cell? ⟨wr.heap.size, 0, none⟩ = some (.int .i64 (zn : Int)) := X8.cell 0; have z8 : w8.cell? ⟨wr.heap.size, 1, none⟩ = some (.int .i64 o) := X8.cell 1; have e0 : w8.cell? ⟨w.heap.size, 0, none⟩ = some (.int .i64 conv) := (by rw [← HV.out.1]; exact L8.st.1.kd.1); have e7 : w8.cell? ⟨w.heap.size, 7, none⟩ = some (.slice As ns cs) := (by rw [← HV2.out.2.2.1]; exact L8.st.1.kdv.2.2.1); have e8 : w8.cell? ⟨w.heap.size, 8, none⟩ = some (.slice (some ⟨g, 0, none⟩) (k + 1) cc) := (by rw [← HV2.out.2.2.2]; exact L8.st.1.kdv.2.2.2); have f0 : w8.cell? ⟨w.heap.size + 1, 0, none⟩ = some (.slice (some ad) kn kc) := L8.st.2.1.cell 0; have f1 : w8.cell? ⟨w.heap.size + 1, 1, none⟩ = some (.int .u64 soft0) := L8.st.2.1.cell 1; have f2 : w8.cell? ⟨w.heap.size + 1, 2, none⟩ = some (.int .i64 tear) := L8.st.2.1.cell 2; have s7 : w8.cell? ⟨b5, 7, none⟩ = some (.slice A n c) := L8.bx.cell 7; have hldc := big_load0 Try.prog wr.heap.size 0 (wc ((zn : Int), o, p)) m (by rw [hwl, HM.out]) w8 X8.range0; have HL8 := Lib.hid L8; have HX8 := Lib.hid X8; clear L8 X8)
                        | fail)
                      have hstep : ckStep conv keep soft0 ⟨bt, so, sn, sf⟩ ((zn : Int), o, p) = ⟨bt, so, sn.set zn (tz + 1), sf⟩ := by
                        exact ckStep_not hz HTZ.out HKP.out HNL.out
                      have hno : ¬ (k + 1 = d.cached.length ∧ ckLeft conv keep soft0 ⟨bt, so, sn, sf⟩ ((zn : Int), o, p) = false ∧ ckNext conv keep ⟨bt, so, sn, sf⟩ ((zn : Int), o, p) = true ∧ 0 < tear) := by
                        have := HT0.out
                        omega
                      go_roundw
                      case rel =>
                        refine ⟨k + 1, HLT.out, by go_num, ?_, ?_, A, n, c, ?_⟩
                        · rw [HX.out.1, hstep]
                        · rw [HX.out.1, hstep]
                        · rw [HX.out.2, hstep, if_neg hno, HX.out.1, hstep]
                          exact HL8.out
                      case measure => have := HLT.out; first | (simp [intOf]; done) | (simp [intOf]; omega)
                  · have ht1 : 0 < tear := by omega
                    have HT1 := Lib.hid ht1
                    as_aux_lemma =>
                      go_wp2_with (first
                        | ((with_reducible refine wpList_cell_alloc (o := ⟨some 10, .alloc _, _, _, _, _⟩) rfl rfl ?_); intro w6 x6 hB6 hs6; clear hs6)
                        | ((with_reducible refine wpList_cell_store (o := ⟨none, .store _ _ _, _, _, _, _⟩) rfl _ _ rfl wr.heap.size ((zn : Int), o, p) c00 hpl rfl rfl rfl x6 ?_); intro w7 x7 hg7 hs7; clear hs7; have hB7 : Below wr.heap.size wr w7 := below_stored hB6 hg7 hB6.size (Nat.le_refl _); have L7 := HL.out.on hB7; have z7 : w7.cell? ⟨wr.heap.size, 0, none⟩ = some (.int .i64 (zn : Int)) := x7.cell 0; have z8 : w7.cell? ⟨wr.heap.size, 1, none⟩ = some (.int .i64 o) := x7.cell 1; have e0 : w7.cell? ⟨w.heap.size, 0, none⟩ = some (.int .i64 conv) := (by rw [← HV.out.1]; exact L7.st.1.kd.1); have e7 : w7.cell? ⟨w.heap.size, 7, none⟩ = some (.slice As ns cs) := (by rw [← HV2.out.2.2.1]; exact L7.st.1.kdv.2.2.1); have e8 : w7.cell? ⟨w.heap.size, 8, none⟩ = some (.slice (some ⟨g, 0, none⟩) (k + 1) cc) := (by rw [← HV2.out.2.2.2]; exact L7.st.1.kdv.2.2.2); have f0 : w7.cell? ⟨w.heap.size + 1, 0, none⟩ = some (.slice (some ad) kn kc) := L7.st.2.1.cell 0; have f1 : w7.cell? ⟨w.heap.size + 1, 1, none⟩ = some (.int .u64 soft0) := L7.st.2.1.cell 1; have f2 : w7.cell? ⟨w.heap.size + 1, 2, none⟩ = some (.int .i64 tear) := L7.st.2.1.cell 2; have s7 : w7.cell? ⟨b5, 7, none⟩ = some (.slice A n c) := L7.bx.cell 7; have hldc := big_load0 Try.prog wr.heap.size 0 (wc ((zn : Int), o, p)) m (by rw [hwl, HM.out]) w7 x7.range0; have q7 : w7.cell? ⟨b8, zn, none⟩ = some (.int .i64 tz) := (by rw [L7.sn.cell zn]; exact HSN.out); have k7 := HKEEP.out w7 (bthen HL.out.st.2.2.2.1 hB7); have HL7 := Lib.hid L7; have HX7 := Lib.hid x7; clear x6 hB6 hg7 hB7 d8 hld; have x7s := L7.sn; clear L7 x7)
                        | ((with_reducible refine wpList_box_int (o := ⟨none, .store _ _ _, _, _, _, _⟩) rfl _ _ _ rfl b8 zn _ _ (tz + 1) _ rfl rfl x7s HSN.out size_i64 ?_); intro w8 hw8; have L8 := HL7.out.see zn (tz + 1); have X8 := HX7.out.grown (grown_setCell w7 ⟨b8, zn, none⟩ (.int .i64 (tz + 1))) (HX7.out.ne HL7.out.sn (by decide)); rw [← hw8] at L8 X8; clear hw8 z7 z8 e0 e7 e8 f0 f1 f2 s7 hldc q7 x7s k7; have z7 : w8.cell? ⟨wr.heap.size, 0, none⟩ = some (.int .i64 (zn : Int)) := X8.cell 0; have z8 : w8.cell? ⟨wr.heap.size, 1, none⟩ = some (.int .i64 o) := X8.cell 1; have e0 : w8.cell? ⟨w.heap.size, 0, none⟩ = some (.int .i64 conv) := (by rw [← HV.out.1]; exact L8.st.1.kd.1); have e7 : w8.cell? ⟨w.heap.size, 7, none⟩ = some (.slice As ns cs) := (by rw [← HV2.out.2.2.1]; exact L8.st.1.kdv.2.2.1); have e8 : w8.cell? ⟨w.heap.size, 8, none⟩ = some (.slice (some ⟨g, 0, none⟩) (k + 1) cc) := (by rw [← HV2.out.2.2.2]; exact L8.st.1.kdv.2.2.2); have f0 : w8.cell? ⟨w.heap.size + 1, 0, none⟩ = some (.slice (some ad) kn kc) := L8.st.2.1.cell 0; have f1 : w8.cell? ⟨w.heap.size + 1, 1, none⟩ = some (.int .u64 soft0) := L8.st.2.1.cell 1; have f2 : w8.cell? ⟨w.heap.size + 1, 2, none⟩ = some (.int .i64 tear) := L8.st.2.1.cell 2; have s7 : w8.cell? ⟨b5, 7, none⟩ = some (.slice A n c) := L8.bx.cell 7; have hldc := big_load0 Try.prog wr.heap.size 0 (wc ((zn : Int), o, p)) m (by rw [hwl, HM.out]) w8 X8.range0; have HL8 := Lib.hid L8; have HX8 := Lib.hid X8; clear L8 X8)
                        | (with_reducible refine wpList_build_zero _ (o := ⟨_, .build _ _, _, _, _, _⟩) rfl _ rfl (bs z64) pg_build ?_)
                        | ((with_reducible refine wpList_pg_alloc (o := ⟨some 15, .alloc _, _, _, _, _⟩) rfl rfl ?_); intro w15 x15 hB15 hs15; clear hs15)
                        | ((with_reducible refine wpList_pg_store (o := ⟨none, .store _ _ _, _, _, _, _⟩) rfl _ _ rfl w8.heap.size z64 pg0 rfl rfl rfl rfl x15 ?_); intro w16 x16 hg16 hs16; clear hs16; have HB16 := Lib.hid (below_stored hB15 hg16 hB15.size (Nat.le_refl _)); have HX16 := Lib.hid x16; clear x15 hB15 hg16 x16 z7 z8 e0 e7 e8 f0 f1 f2 s7 hldc; have L16 := HL8.out.on HB16.out; have X16 := HX8.out.on HB16.out; have z7 : w16.cell? ⟨wr.heap.size, 0, none⟩ = some (.int .i64 (zn : Int)) := X16.cell 0; have z8 : w16.cell? ⟨wr.heap.size, 1, none⟩ = some (.int .i64 o) := X16.cell 1; have e0 : w16.cell? ⟨w.heap.size, 0, none⟩ = some (.int .i64 conv) := (by rw [← HV.out.1]; exact L16.st.1.kd.1); have e7 : w16.cell? ⟨w.heap.size, 7, none⟩ = some (.slice As ns cs) := (by rw [← HV2.out.2.2.1]; exact L16.st.1.kdv.2.2.1); have e8 : w16.cell? ⟨w.heap.size, 8, none⟩ = some (.slice (some ⟨g, 0, none⟩) (k + 1) cc) := (by rw [← HV2.out.2.2.2]; exact L16.st.1.kdv.2.2.2); have f0 : w16.cell? ⟨w.heap.size + 1, 0, none⟩ = some (.slice (some ad) kn kc) := L16.st.2.1.cell 0; have f1 : w16.cell? ⟨w.heap.size + 1, 1, none⟩ = some (.int .u64 soft0) := L16.st.2.1.cell 1; have f2 : w16.cell? ⟨w.heap.size + 1, 2, none⟩ = some (.int .i64 tear) := L16.st.2.1.cell 2; have s7 : w16.cell? ⟨b5, 7, none⟩ = some (.slice A n c) := L16.bx.cell 7; have hldc := big_load0 Try.prog wr.heap.size 0 (wc ((zn : Int), o, p)) m (by rw [hwl, HM.out]) w16 X16.range0; clear L16 X16)
                        | fail)
                      have HSTEP := Lib.hid (show ckStep conv keep soft0 ⟨bt, so, sn, sf⟩ ((zn : Int), o, p) = ⟨bt, so, sn.set zn (tz + 1), sf⟩ by
                        exact ckStep_not (by have := HZC.out; omega) HTZ.out HKP.out (by have := HNL.out; omega))
                      have HYES := Lib.hid (show k + 1 = d.cached.length ∧ ckLeft conv keep soft0 ⟨bt, so, sn, sf⟩ ((zn : Int), o, p) = false ∧ ckNext conv keep ⟨bt, so, sn, sf⟩ ((zn : Int), o, p) = true ∧ 0 < tear by
                        refine ⟨HN.out.2.2.2.2.2.1.symm, ?_, ?_, HT1.out⟩
                        · rw [ckLeft_seq (by have := HZC.out; omega) HTZ.out HKP.out, decide_eq_false (by have := HNL.out; omega)]
                        · rw [ckNext_seq (by have := HZC.out; omega) HTZ.out HKP.out, HNX.out]; simp)
                      have HBASE := Lib.hid (show z64.length = 64 ∧ tornK conv tear d.safe sf ((zn : Int), o, p) = ((zn : Int), o, mix p z64 (min tear 64).toNat) from ⟨rfl, by unfold tornK; dsimp only; rw [if_neg (by have := HZC.out; omega)]; rfl⟩)
                      have hx16z := HX16.out
                      generalize z64 = BASE at HBASE hx16z
                      have hx16 : Box w16 w8.heap.size 42 (bs (mix p BASE 0)) := by rw [mix_zero]; exact hx16z
                      have HX16b := Lib.hid hx16
                      clear hx16 HX16 hx16z
                      generalize wr.heap.size = b10 at *
                      obtain ⟨b15, hb15⟩ : ∃ b, b = w8.heap.size := ⟨_, rfl⟩
                      rw [← hb15] at HX16b ⊢
                      have HB15 := Lib.hid hb15
                      obtain ⟨mp, hmp, hszp⟩ := big_size (P := Try.prog) (t := 42) (s := 64) (by kernel_rfl)
                      have hmp0 : ¬ mp = 0 := by omega
                      have HMP := Lib.hid hmp
                      clear hb15 hmp z7 z8 e0 e7 e8 f0 f1 f2 s7 hldc
                      have hpl9 := hpl
                      have HPL := Lib.hid hpl9
                      clear hpl9
                      go_loopw [18] (fun i wt => ∃ q : Nat, q ≤ (min tear 64).toNat ∧ i = .int .i64 q ∧ Below w8.heap.size w8 wt ∧ Box wt b15 42 (bs (mix p BASE q))) (fun i _ => 64 - (intOf i).toNat)
                      case atStart => exact ⟨0, Nat.zero_le _, rfl, HB16.out, HX16b.out⟩
                      case round =>
                        obtain ⟨q, hq, rfl, hbel, hbx⟩ := hrel
                        have Lr := HL8.out.on hbel
                        have Xr := HX8.out.on hbel
                        have z7 : wr.cell? ⟨b10, 0, none⟩ = some (.int .i64 (zn : Int)) := Xr.cell 0
                        have z8 : wr.cell? ⟨b10, 1, none⟩ = some (.int .i64 o) := Xr.cell 1
                        have f2 : wr.cell? ⟨w.heap.size + 1, 2, none⟩ = some (.int .i64 tear) := Lr.st.2.1.cell 2
                        have s7 : wr.cell? ⟨b5, 7, none⟩ = some (.slice A n c) := Lr.bx.cell 7
                        have hml : (mix p BASE q).length = 64 := by rw [mix_length (by rw [HPL.out, HBASE.out.1]) (by rw [HBASE.out.1]; omega), HBASE.out.1]
                        by_cases hq2 : q < (min tear 64).toNat
                        · have hqt : (q : Int) < tear := by omega
                          have hq64 : (q : Int) < 64 := by omega
                          have hpk : wr.cell? ⟨b10, 2 + q, none⟩ = some (.int .u8 (p.getD q 0)) := (Xr.cell (2 + q)).trans (wc_byte (by rw [HPL.out]; omega))
                          have HOLD := Lib.hid (bs_at (p := mix p BASE q) (q := q) (by rw [hml]; omega))
                          have HR := Lib.hid (And.intro hbel (And.intro hq2 hq))
                          clear hbel hq2 hq Lr Xr hml
                          go_wp2_with (first
                            | ((with_reducible refine wpList_box_u8 (o := ⟨none, .store _ _ _, _, _, _, _⟩) rfl _ _ _ rfl b15 q _ _ (p.getD q 0) _ rfl rfl hbx HOLD.out size_u8 ?_); intro w20 hw20; have HE := Lib.hid hw20; clear hw20)
                            | fail)
                          go_roundw
                          case rel =>
                            refine ⟨q + 1, by have := HR.out.2.1; omega, by go_num, ?_, ?_⟩
                            · rw [HE.out]; exact below_stored HR.out.1 (grown_setCell _ ⟨b15, q, none⟩ _) HR.out.1.size (by rw [HB15.out]; exact Nat.le_refl _)
                            · rw [HE.out, ← mix_set (by rw [HPL.out, HBASE.out.1]) (by rw [HBASE.out.1]; have := HR.out.2.1; omega), bs_set1]; exact hbx.set q _
                          case measure => first | (simp [intOf]; done) | (simp [intOf]; omega)
                        · obtain rfl : q = (min tear 64).toNat := by omega
                          have hend : ¬ (((min tear 64).toNat : Nat) : Int) < 64 ∨ ((((min tear 64).toNat : Nat) : Int) < 64 ∧ ¬ (((min tear 64).toNat : Nat) : Int) < tear) := by omega
                          have HTK := Lib.hid HBASE.out.2
                          have HR := Lib.hid (And.intro Lr Xr)
                          clear hq hq2 Lr Xr hbel
                          generalize mix p BASE (min tear 64).toNat = P9 at hbx hml HTK
                          have hldp := big_load0 Try.prog b15 0 (bs P9) mp (by rw [bs_length, hml, HMP.out]) wr hbx.range0
                          have hwl9 : (wc ((zn : Int), o, P9)).length = 66 := wc_length hml
                          have hlm9 : (wc ((zn : Int), o, P9)).length = m := by rw [hwl9, HM.out]
                          have hfold9 := fold_box Try.zeroCells74 66 (wc ((zn : Int), o, P9)) m (by rw [hwl9, HM.out])
                          clear hbx
                          generalize ((min tear 64).toNat : Nat) = q9 at hend ⊢
                          rcases hend with hend | ⟨hend1, hend2⟩
                          all_goals
                            go_wp2_with (first
                              | (with_reducible refine wpList_build_cell _ (o := ⟨_, .build _ _, _, _, _, _⟩) rfl _ _ rfl (zn : Int) o P9 hml rfl rfl ?_)
                              | (at_builtin; go_loud (refine wpList_append_new _ rfl _ _ _ rfl (w.heap.size + 3) 74 _ 66 80 elemC (.slice A n c) _ _ rfl (wc ((zn : Int), o, P9)) rfl HR.out.1.own hwl9 (fun u hu => wc_cells hu) (by have := HW.out.2.2.2; simp only [maxLen]; omega) (by have := HW.out.2.2.2; omega) HR.out.1.st.2.2.2.2 ?_); intro v1 w29 hown9 hg9; obtain ⟨A1, c1, rfl⟩ := own_slice hown9; have x9 := HR.out.1.five hg9; have HO9 := Lib.hid (And.intro hown9 hg9); clear hown9 hg9 s7)
                              | ((with_reducible refine wpList_box_slice (o := ⟨none, .store _ _ _, _, _, _, _⟩) rfl _ _ _ rfl b5 7 _ _ A1 _ c1 _ rfl rfl x9 rfl size_rcells ?_); intro w30 hw30)
                              | fail)
                            go_roundw
                            case rel =>
                              refine ⟨k + 1, HLT.out, by go_num, ?_, ?_, A1, n + 1, c1, ?_⟩
                              · rw [HX.out.1, HSTEP.out]
                              · rw [HX.out.1, HSTEP.out]
                              · rw [HX.out.2, HSTEP.out, if_pos HYES.out, HX.out.1, HSTEP.out]
                                dsimp only
                                rw [HTK.out]
                                exact HR.out.1.more1 HO9.out.2 HO9.out.1
                            case measure => have := HLT.out; first | (simp [intOf]; done) | (simp [intOf]; omega)
                · have hkz : ¬ (k : Int) = (nc : Int) - 1 := by omega
                  have HKL := Lib.hid hlast
                  clear hlast
                  as_aux_lemma =>
                    go_wp2_with (first
                      | ((with_reducible refine wpList_cell_alloc (o := ⟨some 10, .alloc _, _, _, _, _⟩) rfl rfl ?_); intro w6 x6 hB6 hs6; clear hs6)
                      | ((with_reducible refine wpList_cell_store (o := ⟨none, .store _ _ _, _, _, _, _⟩) rfl _ _ rfl wr.heap.size ((zn : Int), o, p) c00 hpl rfl rfl rfl x6 ?_); intro w7 x7 hg7 hs7; clear hs7; have hB7 : Below wr.heap.size wr w7 := below_stored hB6 hg7 hB6.size (Nat.le_refl _); have L7 := HL.out.on hB7; have z7 : w7.cell? ⟨wr.heap.size, 0, none⟩ = some (.int .i64 (zn : Int)) := x7.cell 0; have z8 : w7.cell? ⟨wr.heap.size, 1, none⟩ = some (.int .i64 o) := x7.cell 1; have e0 : w7.cell? ⟨w.heap.size, 0, none⟩ = some (.int .i64 conv) := (by rw [← HV.out.1]; exact L7.st.1.kd.1); have e7 : w7.cell? ⟨w.heap.size, 7, none⟩ = some (.slice As ns cs) := (by rw [← HV2.out.2.2.1]; exact L7.st.1.kdv.2.2.1); have e8 : w7.cell? ⟨w.heap.size, 8, none⟩ = some (.slice (some ⟨g, 0, none⟩) nc cc) := (by rw [← HV2.out.2.2.2]; exact L7.st.1.kdv.2.2.2); have f0 : w7.cell? ⟨w.heap.size + 1, 0, none⟩ = some (.slice (some ad) kn kc) := L7.st.2.1.cell 0; have f1 : w7.cell? ⟨w.heap.size + 1, 1, none⟩ = some (.int .u64 soft0) := L7.st.2.1.cell 1; have f2 : w7.cell? ⟨w.heap.size + 1, 2, none⟩ = some (.int .i64 tear) := L7.st.2.1.cell 2; have s7 : w7.cell? ⟨b5, 7, none⟩ = some (.slice A n c) := L7.bx.cell 7; have hldc := big_load0 Try.prog wr.heap.size 0 (wc ((zn : Int), o, p)) m (by rw [hwl, HM.out]) w7 x7.range0; have q7 : w7.cell? ⟨b8, zn, none⟩ = some (.int .i64 tz) := (by rw [L7.sn.cell zn]; exact HSN.out); have k7 := HKEEP.out w7 (bthen HL.out.st.2.2.2.1 hB7); have HL7 := Lib.hid L7; have HX7 := Lib.hid x7; clear x6 hB6 hg7 hB7 d8 hld; have x7s := L7.sn; clear L7 x7)
                      | ((with_reducible refine wpList_box_int (o := ⟨none, .store _ _ _, _, _, _, _⟩) rfl _ _ _ rfl b8 zn _ _ (tz + 1) _ rfl rfl x7s HSN.out size_i64 ?_); intro w8 hw8; have L8 := HL7.out.see zn (tz + 1); have X8 := HX7.out.grown (grown_setCell w7 ⟨b8, zn, none⟩ (.int .i64 (tz + 1))) (HX7.out.ne HL7.out.sn (by decide)); rw [← hw8] at L8 X8; clear hw8 z7 z8 e0 e7 e8 f0 f1 f2 s7 hldc q7 x7s k7; have z7 : w8.cell? ⟨wr.heap.size, 0, none⟩ = some (.int .i64 (zn : Int)) := X8.cell 0; have z8 : w8.cell? ⟨wr.heap.size, 1, none⟩ = some (.int .i64 o) := X8.cell 1; have e0 : w8.cell? ⟨w.heap.size, 0, none⟩ = some (.int .i64 conv) := (by rw [← HV.out.1]; exact L8.st.1.kd.1); have e7 : w8.cell? ⟨w.heap.size, 7, none⟩ = some (.slice As ns cs) := (by rw [← HV2.out.2.2.1]; exact L8.st.1.kdv.2.2.1); have e8 : w8.cell? ⟨w.heap.size, 8, none⟩ = some (.slice (some ⟨g, 0, none⟩) nc cc) := (by rw [← HV2.out.2.2.2]; exact L8.st.1.kdv.2.2.2); have f0 : w8.cell? ⟨w.heap.size + 1, 0, none⟩ = some (.slice (some ad) kn kc) := L8.st.2.1.cell 0; have f1 : w8.cell? ⟨w.heap.size + 1, 1, none⟩ = some (.int .u64 soft0) := L8.st.2.1.cell 1; have f2 : w8.cell? ⟨w.heap.size + 1, 2, none⟩ = some (.int .i64 tear) := L8.st.2.1.cell 2; have s7 : w8.cell? ⟨b5, 7, none⟩ = some (.slice A n c) := L8.bx.cell 7; have hldc := big_load0 Try.prog wr.heap.size 0 (wc ((zn : Int), o, p)) m (by rw [hwl, HM.out]) w8 X8.range0; have HL8 := Lib.hid L8; have HX8 := Lib.hid X8; clear L8 X8)
                      | fail)
                    have hstep : ckStep conv keep soft0 ⟨bt, so, sn, sf⟩ ((zn : Int), o, p) = ⟨bt, so, sn.set zn (tz + 1), sf⟩ := by
                      exact ckStep_not hz HTZ.out HKP.out HNL.out
                    have hno : ¬ (k + 1 = d.cached.length ∧ ckLeft conv keep soft0 ⟨bt, so, sn, sf⟩ ((zn : Int), o, p) = false ∧ ckNext conv keep ⟨bt, so, sn, sf⟩ ((zn : Int), o, p) = true ∧ 0 < tear) := by
                      have := HKL.out
                      have := HN.out.2.2.2.2.2.1
                      omega
                    go_roundw
                    case rel =>
                      refine ⟨k + 1, HLT.out, by go_num, ?_, ?_, A, n, c, ?_⟩
                      · rw [HX.out.1, hstep]
                      · rw [HX.out.1, hstep]
                      · rw [HX.out.2, hstep, if_neg hno, HX.out.1, hstep]
                        exact HL8.out
                    case measure => have := HLT.out; first | (simp [intOf]; done) | (simp [intOf]; omega)
              · have hnb2 : (tz == 0) = false := by simpa using hnx
                have HNX := Lib.hid hnb2
                clear hnx
                as_aux_lemma =>
                  go_wp2_with (first
                    | ((with_reducible refine wpList_cell_alloc (o := ⟨some 10, .alloc _, _, _, _, _⟩) rfl rfl ?_); intro w6 x6 hB6 hs6; clear hs6)
                    | ((with_reducible refine wpList_cell_store (o := ⟨none, .store _ _ _, _, _, _, _⟩) rfl _ _ rfl wr.heap.size ((zn : Int), o, p) c00 hpl rfl rfl rfl x6 ?_); intro w7 x7 hg7 hs7; clear hs7; have hB7 : Below wr.heap.size wr w7 := below_stored hB6 hg7 hB6.size (Nat.le_refl _); have L7 := HL.out.on hB7; have z7 : w7.cell? ⟨wr.heap.size, 0, none⟩ = some (.int .i64 (zn : Int)) := x7.cell 0; have z8 : w7.cell? ⟨wr.heap.size, 1, none⟩ = some (.int .i64 o) := x7.cell 1; have e0 : w7.cell? ⟨w.heap.size, 0, none⟩ = some (.int .i64 conv) := (by rw [← HV.out.1]; exact L7.st.1.kd.1); have e7 : w7.cell? ⟨w.heap.size, 7, none⟩ = some (.slice As ns cs) := (by rw [← HV2.out.2.2.1]; exact L7.st.1.kdv.2.2.1); have e8 : w7.cell? ⟨w.heap.size, 8, none⟩ = some (.slice (some ⟨g, 0, none⟩) nc cc) := (by rw [← HV2.out.2.2.2]; exact L7.st.1.kdv.2.2.2); have f0 : w7.cell? ⟨w.heap.size + 1, 0, none⟩ = some (.slice (some ad) kn kc) := L7.st.2.1.cell 0; have f1 : w7.cell? ⟨w.heap.size + 1, 1, none⟩ = some (.int .u64 soft0) := L7.st.2.1.cell 1; have f2 : w7.cell? ⟨w.heap.size + 1, 2, none⟩ = some (.int .i64 tear) := L7.st.2.1.cell 2; have s7 : w7.cell? ⟨b5, 7, none⟩ = some (.slice A n c) := L7.bx.cell 7; have hldc := big_load0 Try.prog wr.heap.size 0 (wc ((zn : Int), o, p)) m (by rw [hwl, HM.out]) w7 x7.range0; have q7 : w7.cell? ⟨b8, zn, none⟩ = some (.int .i64 tz) := (by rw [L7.sn.cell zn]; exact HSN.out); have k7 := HKEEP.out w7 (bthen HL.out.st.2.2.2.1 hB7); have HL7 := Lib.hid L7; have HX7 := Lib.hid x7; clear x6 hB6 hg7 hB7 d8 hld; have x7s := L7.sn; clear L7 x7)
                    | ((with_reducible refine wpList_box_int (o := ⟨none, .store _ _ _, _, _, _, _⟩) rfl _ _ _ rfl b8 zn _ _ (tz + 1) _ rfl rfl x7s HSN.out size_i64 ?_); intro w8 hw8; have L8 := HL7.out.see zn (tz + 1); have X8 := HX7.out.grown (grown_setCell w7 ⟨b8, zn, none⟩ (.int .i64 (tz + 1))) (HX7.out.ne HL7.out.sn (by decide)); rw [← hw8] at L8 X8; clear hw8 z7 z8 e0 e7 e8 f0 f1 f2 s7 hldc q7 x7s k7; have z7 : w8.cell? ⟨wr.heap.size, 0, none⟩ = some (.int .i64 (zn : Int)) := X8.cell 0; have z8 : w8.cell? ⟨wr.heap.size, 1, none⟩ = some (.int .i64 o) := X8.cell 1; have e0 : w8.cell? ⟨w.heap.size, 0, none⟩ = some (.int .i64 conv) := (by rw [← HV.out.1]; exact L8.st.1.kd.1); have e7 : w8.cell? ⟨w.heap.size, 7, none⟩ = some (.slice As ns cs) := (by rw [← HV2.out.2.2.1]; exact L8.st.1.kdv.2.2.1); have e8 : w8.cell? ⟨w.heap.size, 8, none⟩ = some (.slice (some ⟨g, 0, none⟩) nc cc) := (by rw [← HV2.out.2.2.2]; exact L8.st.1.kdv.2.2.2); have f0 : w8.cell? ⟨w.heap.size + 1, 0, none⟩ = some (.slice (some ad) kn kc) := L8.st.2.1.cell 0; have f1 : w8.cell? ⟨w.heap.size + 1, 1, none⟩ = some (.int .u64 soft0) := L8.st.2.1.cell 1; have f2 : w8.cell? ⟨w.heap.size + 1, 2, none⟩ = some (.int .i64 tear) := L8.st.2.1.cell 2; have s7 : w8.cell? ⟨b5, 7, none⟩ = some (.slice A n c) := L8.bx.cell 7; have hldc := big_load0 Try.prog wr.heap.size 0 (wc ((zn : Int), o, p)) m (by rw [hwl, HM.out]) w8 X8.range0; have HL8 := Lib.hid L8; have HX8 := Lib.hid X8; clear L8 X8)
                    | fail)
                  have hstep : ckStep conv keep soft0 ⟨bt, so, sn, sf⟩ ((zn : Int), o, p) = ⟨bt, so, sn.set zn (tz + 1), sf⟩ := by
                    exact ckStep_not hz HTZ.out HKP.out HNL.out
                  have hno : ¬ (k + 1 = d.cached.length ∧ ckLeft conv keep soft0 ⟨bt, so, sn, sf⟩ ((zn : Int), o, p) = false ∧ ckNext conv keep ⟨bt, so, sn, sf⟩ ((zn : Int), o, p) = true ∧ 0 < tear) := by
                    rw [ckNext_seq hz HTZ.out HKP.out, HNX.out]
                    simp
                  go_roundw
                  case rel =>
                    refine ⟨k + 1, HLT.out, by go_num, ?_, ?_, A, n, c, ?_⟩
                    · rw [HX.out.1, hstep]
                    · rw [HX.out.1, hstep]
                    · rw [HX.out.2, hstep, if_neg hno, HX.out.1, hstep]
                      exact HL8.out
                  case measure => have := HLT.out; first | (simp [intOf]; done) | (simp [intOf]; omega)
          · have HKP := Lib.hid (show kpOf conv keep (zn : Int) = 0 from kp_no1 hj (by rw [HK.out.2.1]; exact hjk))
            have hjki : ¬ (j : Int) < (kn : Int) := by omega
            have hlf : ¬ tz < 0 := by omega
            have HNL := Lib.hid hlf
            by_cases hnx : tz = 0
            · have hnb2 : (tz == 0) = true := by rw [hnx]; simp
              have HNX := Lib.hid hnx
              clear hnx
              by_cases hlast : k + 1 = nc
              · subst hlast
                by_cases ht0 : tear ≤ 0
                · have HT0 := Lib.hid ht0
                  as_aux_lemma =>
                    go_wp2_with (first
                      | ((with_reducible refine wpList_cell_alloc (o := ⟨some 10, .alloc _, _, _, _, _⟩) rfl rfl ?_); intro w6 x6 hB6 hs6; clear hs6)
                      | ((with_reducible refine wpList_cell_store (o := ⟨none, .store _ _ _, _, _, _, _⟩) rfl _ _ rfl wr.heap.size ((zn : Int), o, p) c00 hpl rfl rfl rfl x6 ?_); intro w7 x7 hg7 hs7; clear hs7; have hB7 : Below wr.heap.size wr w7 := below_stored hB6 hg7 hB6.size (Nat.le_refl _); have L7 := HL.out.on hB7; have z7 : w7.cell? ⟨wr.heap.size, 0, none⟩ = some (.int .i64 (zn : Int)) := x7.cell 0; have z8 : w7.cell? ⟨wr.heap.size, 1, none⟩ = some (.int .i64 o) := x7.cell 1; have e0 : w7.cell? ⟨w.heap.size, 0, none⟩ = some (.int .i64 conv) := (by rw [← HV.out.1]; exact L7.st.1.kd.1); have e7 : w7.cell? ⟨w.heap.size, 7, none⟩ = some (.slice As ns cs) := (by rw [← HV2.out.2.2.1]; exact L7.st.1.kdv.2.2.1); have e8 : w7.cell? ⟨w.heap.size, 8, none⟩ = some (.slice (some ⟨g, 0, none⟩) (k + 1) cc) := (by rw [← HV2.out.2.2.2]; exact L7.st.1.kdv.2.2.2); have f0 : w7.cell? ⟨w.heap.size + 1, 0, none⟩ = some (.slice keepA kn kc) := L7.st.2.1.cell 0; have f1 : w7.cell? ⟨w.heap.size + 1, 1, none⟩ = some (.int .u64 soft0) := L7.st.2.1.cell 1; have f2 : w7.cell? ⟨w.heap.size + 1, 2, none⟩ = some (.int .i64 tear) := L7.st.2.1.cell 2; have s7 : w7.cell? ⟨b5, 7, none⟩ = some (.slice A n c) := L7.bx.cell 7; have hldc := big_load0 Try.prog wr.heap.size 0 (wc ((zn : Int), o, p)) m (by rw [hwl, HM.out]) w7 x7.range0; have q7 : w7.cell? ⟨b8, zn, none⟩ = some (.int .i64 tz) := (by rw [L7.sn.cell zn]; exact HSN.out); have HL7 := Lib.hid L7; have HX7 := Lib.hid x7; clear x6 hB6 hg7 hB7 d8 hld; have x7s := L7.sn; clear L7 x7)
                      | ((with_reducible refine wpList_box_int (o := ⟨none, .store _ _ _, _, _, _, _⟩) rfl _ _ _ rfl b8 zn _ _ (tz + 1) _ rfl rfl x7s HSN.out size_i64 ?_); intro w8 hw8; have L8 := HL7.out.see zn (tz + 1); have X8 := HX7.out.grown (grown_setCell w7 ⟨b8, zn, none⟩ (.int .i64 (tz + 1))) (HX7.out.ne HL7.out.sn (by decide)); rw [← hw8] at L8 X8; clear hw8 z7 z8 e0 e7 e8 f0 f1 f2 s7 hldc q7 x7s; have z7 : w8.cell? ⟨wr.heap.size, 0, none⟩ = some (.int .i64 (zn : Int)) := X8.cell 0; have z8 : w8.cell? ⟨wr.heap.size, 1, none⟩ = some (.int .i64 o) := X8.cell 1; have e0 : w8.cell? ⟨w.heap.size, 0, none⟩ = some (.int .i64 conv) := (by rw [← HV.out.1]; exact L8.st.1.kd.1); have e7 : w8.cell? ⟨w.heap.size, 7, none⟩ = some (.slice As ns cs) := (by rw [← HV2.out.2.2.1]; exact L8.st.1.kdv.2.2.1); have e8 : w8.cell? ⟨w.heap.size, 8, none⟩ = some (.slice (some ⟨g, 0, none⟩) (k + 1) cc) := (by rw [← HV2.out.2.2.2]; exact L8.st.1.kdv.2.2.2); have f0 : w8.cell? ⟨w.heap.size + 1, 0, none⟩ = some (.slice keepA kn kc) := L8.st.2.1.cell 0; have f1 : w8.cell? ⟨w.heap.size + 1, 1, none⟩ = some (.int .u64 soft0) := L8.st.2.1.cell 1; have f2 : w8.cell? ⟨w.heap.size + 1, 2, none⟩ = some (.int .i64 tear) := L8.st.2.1.cell 2; have s7 : w8.cell? ⟨b5, 7, none⟩ = some (.slice A n c) := L8.bx.cell 7; have hldc := big_load0 Try.prog wr.heap.size 0 (wc ((zn : Int), o, p)) m (by rw [hwl, HM.out]) w8 X8.range0; have HL8 := Lib.hid L8; have HX8 := Lib.hid X8; clear L8 X8)
                      | fail)
                    have hstep : ckStep conv keep soft0 ⟨bt, so, sn, sf⟩ ((zn : Int), o, p) = ⟨bt, so, sn.set zn (tz + 1), sf⟩ := by
                      exact ckStep_not hz HTZ.out HKP.out HNL.out
                    have hno : ¬ (k + 1 = d.cached.length ∧ ckLeft conv keep soft0 ⟨bt, so, sn, sf⟩ ((zn : Int), o, p) = false ∧ ckNext conv keep ⟨bt, so, sn, sf⟩ ((zn : Int), o, p) = true ∧ 0 < tear) := by
                      have := HT0.out
                      omega
                    go_roundw
                    case rel =>
                      refine ⟨k + 1, HLT.out, by go_num, ?_, ?_, A, n, c, ?_⟩
                      · rw [HX.out.1, hstep]
                      · rw [HX.out.1, hstep]
                      · rw [HX.out.2, hstep, if_neg hno, HX.out.1, hstep]
                        exact HL8.out
                    case measure => have := HLT.out; first | (simp [intOf]; done) | (simp [intOf]; omega)
                · have ht1 : 0 < tear := by omega
                  have HT1 := Lib.hid ht1
                  as_aux_lemma =>
                    go_wp2_with (first
                      | ((with_reducible refine wpList_cell_alloc (o := ⟨some 10, .alloc _, _, _, _, _⟩) rfl rfl ?_); intro w6 x6 hB6 hs6; clear hs6)
                      | ((with_reducible refine wpList_cell_store (o := ⟨none, .store _ _ _, _, _, _, _⟩) rfl _ _ rfl wr.heap.size ((zn : Int), o, p) c00 hpl rfl rfl rfl x6 ?_); intro w7 x7 hg7 hs7; clear hs7; have hB7 : Below wr.heap.size wr w7 := below_stored hB6 hg7 hB6.size (Nat.le_refl _); have L7 := HL.out.on hB7; have z7 : w7.cell? ⟨wr.heap.size, 0, none⟩ = some (.int .i64 (zn : Int)) := x7.cell 0; have z8 : w7.cell? ⟨wr.heap.size, 1, none⟩ = some (.int .i64 o) := x7.cell 1; have e0 : w7.cell? ⟨w.heap.size, 0, none⟩ = some (.int .i64 conv) := (by rw [← HV.out.1]; exact L7.st.1.kd.1); have e7 : w7.cell? ⟨w.heap.size, 7, none⟩ = some (.slice As ns cs) := (by rw [← HV2.out.2.2.1]; exact L7.st.1.kdv.2.2.1); have e8 : w7.cell? ⟨w.heap.size, 8, none⟩ = some (.slice (some ⟨g, 0, none⟩) (k + 1) cc) := (by rw [← HV2.out.2.2.2]; exact L7.st.1.kdv.2.2.2); have f0 : w7.cell? ⟨w.heap.size + 1, 0, none⟩ = some (.slice keepA kn kc) := L7.st.2.1.cell 0; have f1 : w7.cell? ⟨w.heap.size + 1, 1, none⟩ = some (.int .u64 soft0) := L7.st.2.1.cell 1; have f2 : w7.cell? ⟨w.heap.size + 1, 2, none⟩ = some (.int .i64 tear) := L7.st.2.1.cell 2; have s7 : w7.cell? ⟨b5, 7, none⟩ = some (.slice A n c) := L7.bx.cell 7; have hldc := big_load0 Try.prog wr.heap.size 0 (wc ((zn : Int), o, p)) m (by rw [hwl, HM.out]) w7 x7.range0; have q7 : w7.cell? ⟨b8, zn, none⟩ = some (.int .i64 tz) := (by rw [L7.sn.cell zn]; exact HSN.out); have HL7 := Lib.hid L7; have HX7 := Lib.hid x7; clear x6 hB6 hg7 hB7 d8 hld; have x7s := L7.sn; clear L7 x7)
                      | ((with_reducible refine wpList_box_int (o := ⟨none, .store _ _ _, _, _, _, _⟩) rfl _ _ _ rfl b8 zn _ _ (tz + 1) _ rfl rfl x7s HSN.out size_i64 ?_); intro w8 hw8; have L8 := HL7.out.see zn (tz + 1); have X8 := HX7.out.grown (grown_setCell w7 ⟨b8, zn, none⟩ (.int .i64 (tz + 1))) (HX7.out.ne HL7.out.sn (by decide)); rw [← hw8] at L8 X8; clear hw8 z7 z8 e0 e7 e8 f0 f1 f2 s7 hldc q7 x7s; have z7 : w8.cell? ⟨wr.heap.size, 0, none⟩ = some (.int .i64 (zn : Int)) := X8.cell 0; have z8 : w8.cell? ⟨wr.heap.size, 1, none⟩ = some (.int .i64 o) := X8.cell 1; have e0 : w8.cell? ⟨w.heap.size, 0, none⟩ = some (.int .i64 conv) := (by rw [← HV.out.1]; exact L8.st.1.kd.1); have e7 : w8.cell? ⟨w.heap.size, 7, none⟩ = some (.slice As ns cs) := (by rw [← HV2.out.2.2.1]; exact L8.st.1.kdv.2.2.1); have e8 : w8.cell? ⟨w.heap.size, 8, none⟩ = some (.slice (some ⟨g, 0, none⟩) (k + 1) cc) := (by rw [← HV2.out.2.2.2]; exact L8.st.1.kdv.2.2.2); have f0 : w8.cell? ⟨w.heap.size + 1, 0, none⟩ = some (.slice keepA kn kc) := L8.st.2.1.cell 0; have f1 : w8.cell? ⟨w.heap.size + 1, 1, none⟩ = some (.int .u64 soft0) := L8.st.2.1.cell 1; have f2 : w8.cell? ⟨w.heap.size + 1, 2, none⟩ = some (.int .i64 tear) := L8.st.2.1.cell 2; have s7 : w8.cell? ⟨b5, 7, none⟩ = some (.slice A n c) := L8.bx.cell 7; have hldc := big_load0 Try.prog wr.heap.size 0 (wc ((zn : Int), o, p)) m (by rw [hwl, HM.out]) w8 X8.range0; have HL8 := Lib.hid L8; have HX8 := Lib.hid X8; clear L8 X8)
                      | (with_reducible refine wpList_build_zero _ (o := ⟨_, .build _ _, _, _, _, _⟩) rfl _ rfl (bs z64) pg_build ?_)
                      | ((with_reducible refine wpList_pg_alloc (o := ⟨some 15, .alloc _, _, _, _, _⟩) rfl rfl ?_); intro w15 x15 hB15 hs15; clear hs15)
                      | ((with_reducible refine wpList_pg_store (o := ⟨none, .store _ _ _, _, _, _, _⟩) rfl _ _ rfl w8.heap.size z64 pg0 rfl rfl rfl rfl x15 ?_); intro w16 x16 hg16 hs16; clear hs16; have HB16 := Lib.hid (below_stored hB15 hg16 hB15.size (Nat.le_refl _)); have HX16 := Lib.hid x16; clear x15 hB15 hg16 x16 z7 z8 e0 e7 e8 f0 f1 f2 s7 hldc; have L16 := HL8.out.on HB16.out; have X16 := HX8.out.on HB16.out; have z7 : w16.cell? ⟨wr.heap.size, 0, none⟩ = some (.int .i64 (zn : Int)) := X16.cell 0; have z8 : w16.cell? ⟨wr.heap.size, 1, none⟩ = some (.int .i64 o) := X16.cell 1; have e0 : w16.cell? ⟨w.heap.size, 0, none⟩ = some (.int .i64 conv) := (by rw [← HV.out.1]; exact L16.st.1.kd.1); have e7 : w16.cell? ⟨w.heap.size, 7, none⟩ = some (.slice As ns cs) := (by rw [← HV2.out.2.2.1]; exact L16.st.1.kdv.2.2.1); have e8 : w16.cell? ⟨w.heap.size, 8, none⟩ = some (.slice (some ⟨g, 0, none⟩) (k + 1) cc) := (by rw [← HV2.out.2.2.2]; exact L16.st.1.kdv.2.2.2); have f0 : w16.cell? ⟨w.heap.size + 1, 0, none⟩ = some (.slice keepA kn kc) := L16.st.2.1.cell 0; have f1 : w16.cell? ⟨w.heap.size + 1, 1, none⟩ = some (.int .u64 soft0) := L16.st.2.1.cell 1; have f2 : w16.cell? ⟨w.heap.size + 1, 2, none⟩ = some (.int .i64 tear) := L16.st.2.1.cell 2; have s7 : w16.cell? ⟨b5, 7, none⟩ = some (.slice A n c) := L16.bx.cell 7; have hldc := big_load0 Try.prog wr.heap.size 0 (wc ((zn : Int), o, p)) m (by rw [hwl, HM.out]) w16 X16.range0; clear L16 X16)
                      | fail)
                    have HSTEP := Lib.hid (show ckStep conv keep soft0 ⟨bt, so, sn, sf⟩ ((zn : Int), o, p) = ⟨bt, so, sn.set zn (tz + 1), sf⟩ by
                      exact ckStep_not (by have := HZC.out; omega) HTZ.out HKP.out (by have := HNL.out; omega))
                    have HYES := Lib.hid (show k + 1 = d.cached.length ∧ ckLeft conv keep soft0 ⟨bt, so, sn, sf⟩ ((zn : Int), o, p) = false ∧ ckNext conv keep ⟨bt, so, sn, sf⟩ ((zn : Int), o, p) = true ∧ 0 < tear by
                      refine ⟨HN.out.2.2.2.2.2.1.symm, ?_, ?_, HT1.out⟩
                      · rw [ckLeft_seq (by have := HZC.out; omega) HTZ.out HKP.out, decide_eq_false (by have := HNL.out; omega)]
                      · rw [ckNext_seq (by have := HZC.out; omega) HTZ.out HKP.out, HNX.out]; simp)
                    have HBASE := Lib.hid (show z64.length = 64 ∧ tornK conv tear d.safe sf ((zn : Int), o, p) = ((zn : Int), o, mix p z64 (min tear 64).toNat) from ⟨rfl, by unfold tornK; dsimp only; rw [if_neg (by have := HZC.out; omega)]; rfl⟩)
                    have hx16z := HX16.out
                    generalize z64 = BASE at HBASE hx16z
                    have hx16 : Box w16 w8.heap.size 42 (bs (mix p BASE 0)) := by rw [mix_zero]; exact hx16z
                    have HX16b := Lib.hid hx16
                    clear hx16 HX16 hx16z
                    generalize wr.heap.size = b10 at *
                    obtain ⟨b15, hb15⟩ : ∃ b, b = w8.heap.size := ⟨_, rfl⟩
                    rw [← hb15] at HX16b ⊢
                    have HB15 := Lib.hid hb15
                    obtain ⟨mp, hmp, hszp⟩ := big_size (P := Try.prog) (t := 42) (s := 64) (by kernel_rfl)
                    have hmp0 : ¬ mp = 0 := by omega
                    have HMP := Lib.hid hmp
                    clear hb15 hmp z7 z8 e0 e7 e8 f0 f1 f2 s7 hldc
                    have hpl9 := hpl
                    have HPL := Lib.hid hpl9
                    clear hpl9
                    go_loopw [18] (fun i wt => ∃ q : Nat, q ≤ (min tear 64).toNat ∧ i = .int .i64 q ∧ Below w8.heap.size w8 wt ∧ Box wt b15 42 (bs (mix p BASE q))) (fun i _ => 64 - (intOf i).toNat)
                    case atStart => exact ⟨0, Nat.zero_le _, rfl, HB16.out, HX16b.out⟩
                    case round =>
                      obtain ⟨q, hq, rfl, hbel, hbx⟩ := hrel
                      have Lr := HL8.out.on hbel
                      have Xr := HX8.out.on hbel
                      have z7 : wr.cell? ⟨b10, 0, none⟩ = some (.int .i64 (zn : Int)) := Xr.cell 0
                      have z8 : wr.cell? ⟨b10, 1, none⟩ = some (.int .i64 o) := Xr.cell 1
                      have f2 : wr.cell? ⟨w.heap.size + 1, 2, none⟩ = some (.int .i64 tear) := Lr.st.2.1.cell 2
                      have s7 : wr.cell? ⟨b5, 7, none⟩ = some (.slice A n c) := Lr.bx.cell 7
                      have hml : (mix p BASE q).length = 64 := by rw [mix_length (by rw [HPL.out, HBASE.out.1]) (by rw [HBASE.out.1]; omega), HBASE.out.1]
                      by_cases hq2 : q < (min tear 64).toNat
                      · have hqt : (q : Int) < tear := by omega
                        have hq64 : (q : Int) < 64 := by omega
                        have hpk : wr.cell? ⟨b10, 2 + q, none⟩ = some (.int .u8 (p.getD q 0)) := (Xr.cell (2 + q)).trans (wc_byte (by rw [HPL.out]; omega))
                        have HOLD := Lib.hid (bs_at (p := mix p BASE q) (q := q) (by rw [hml]; omega))
                        have HR := Lib.hid (And.intro hbel (And.intro hq2 hq))
                        clear hbel hq2 hq Lr Xr hml
                        go_wp2_with (first
                          | ((with_reducible refine wpList_box_u8 (o := ⟨none, .store _ _ _, _, _, _, _⟩) rfl _ _ _ rfl b15 q _ _ (p.getD q 0) _ rfl rfl hbx HOLD.out size_u8 ?_); intro w20 hw20; have HE := Lib.hid hw20; clear hw20)
                          | fail)
                        go_roundw
                        case rel =>
                          refine ⟨q + 1, by have := HR.out.2.1; omega, by go_num, ?_, ?_⟩
                          · rw [HE.out]; exact below_stored HR.out.1 (grown_setCell _ ⟨b15, q, none⟩ _) HR.out.1.size (by rw [HB15.out]; exact Nat.le_refl _)
                          · rw [HE.out, ← mix_set (by rw [HPL.out, HBASE.out.1]) (by rw [HBASE.out.1]; have := HR.out.2.1; omega), bs_set1]; exact hbx.set q _
                        case measure => first | (simp [intOf]; done) | (simp [intOf]; omega)
                      · obtain rfl : q = (min tear 64).toNat := by omega
                        have hend : ¬ (((min tear 64).toNat : Nat) : Int) < 64 ∨ ((((min tear 64).toNat : Nat) : Int) < 64 ∧ ¬ (((min tear 64).toNat : Nat) : Int) < tear) := by omega
                        have HTK := Lib.hid HBASE.out.2
                        have HR := Lib.hid (And.intro Lr Xr)
                        clear hq hq2 Lr Xr hbel
                        generalize mix p BASE (min tear 64).toNat = P9 at hbx hml HTK
                        have hldp := big_load0 Try.prog b15 0 (bs P9) mp (by rw [bs_length, hml, HMP.out]) wr hbx.range0
                        have hwl9 : (wc ((zn : Int), o, P9)).length = 66 := wc_length hml
                        have hlm9 : (wc ((zn : Int), o, P9)).length = m := by rw [hwl9, HM.out]
                        have hfold9 := fold_box Try.zeroCells74 66 (wc ((zn : Int), o, P9)) m (by rw [hwl9, HM.out])
                        clear hbx
                        generalize ((min tear 64).toNat : Nat) = q9 at hend ⊢
                        rcases hend with hend | ⟨hend1, hend2⟩
                        all_goals
                          go_wp2_with (first
                            | (with_reducible refine wpList_build_cell _ (o := ⟨_, .build _ _, _, _, _, _⟩) rfl _ _ rfl (zn : Int) o P9 hml rfl rfl ?_)
                            | (at_builtin; go_loud (refine wpList_append_new _ rfl _ _ _ rfl (w.heap.size + 3) 74 _ 66 80 elemC (.slice A n c) _ _ rfl (wc ((zn : Int), o, P9)) rfl HR.out.1.own hwl9 (fun u hu => wc_cells hu) (by have := HW.out.2.2.2; simp only [maxLen]; omega) (by have := HW.out.2.2.2; omega) HR.out.1.st.2.2.2.2 ?_); intro v1 w29 hown9 hg9; obtain ⟨A1, c1, rfl⟩ := own_slice hown9; have x9 := HR.out.1.five hg9; have HO9 := Lib.hid (And.intro hown9 hg9); clear hown9 hg9 s7)
                            | ((with_reducible refine wpList_box_slice (o := ⟨none, .store _ _ _, _, _, _, _⟩) rfl _ _ _ rfl b5 7 _ _ A1 _ c1 _ rfl rfl x9 rfl size_rcells ?_); intro w30 hw30)
                            | fail)
                          go_roundw
                          case rel =>
                            refine ⟨k + 1, HLT.out, by go_num, ?_, ?_, A1, n + 1, c1, ?_⟩
                            · rw [HX.out.1, HSTEP.out]
                            · rw [HX.out.1, HSTEP.out]
                            · rw [HX.out.2, HSTEP.out, if_pos HYES.out, HX.out.1, HSTEP.out]
                              dsimp only
                              rw [HTK.out]
                              exact HR.out.1.more1 HO9.out.2 HO9.out.1
                          case measure => have := HLT.out; first | (simp [intOf]; done) | (simp [intOf]; omega)
              · have hkz : ¬ (k : Int) = (nc : Int) - 1 := by omega
                have HKL := Lib.hid hlast
                clear hlast
                as_aux_lemma =>
                  go_wp2_with (first
                    | ((with_reducible refine wpList_cell_alloc (o := ⟨some 10, .alloc _, _, _, _, _⟩) rfl rfl ?_); intro w6 x6 hB6 hs6; clear hs6)
                    | ((with_reducible refine wpList_cell_store (o := ⟨none, .store _ _ _, _, _, _, _⟩) rfl _ _ rfl wr.heap.size ((zn : Int), o, p) c00 hpl rfl rfl rfl x6 ?_); intro w7 x7 hg7 hs7; clear hs7; have hB7 : Below wr.heap.size wr w7 := below_stored hB6 hg7 hB6.size (Nat.le_refl _); have L7 := HL.out.on hB7; have z7 : w7.cell? ⟨wr.heap.size, 0, none⟩ = some (.int .i64 (zn : Int)) := x7.cell 0; have z8 : w7.cell? ⟨wr.heap.size, 1, none⟩ = some (.int .i64 o) := x7.cell 1; have e0 : w7.cell? ⟨w.heap.size, 0, none⟩ = some (.int .i64 conv) := (by rw [← HV.out.1]; exact L7.st.1.kd.1); have e7 : w7.cell? ⟨w.heap.size, 7, none⟩ = some (.slice As ns cs) := (by rw [← HV2.out.2.2.1]; exact L7.st.1.kdv.2.2.1); have e8 : w7.cell? ⟨w.heap.size, 8, none⟩ = some (.slice (some ⟨g, 0, none⟩) nc cc) := (by rw [← HV2.out.2.2.2]; exact L7.st.1.kdv.2.2.2); have f0 : w7.cell? ⟨w.heap.size + 1, 0, none⟩ = some (.slice keepA kn kc) := L7.st.2.1.cell 0; have f1 : w7.cell? ⟨w.heap.size + 1, 1, none⟩ = some (.int .u64 soft0) := L7.st.2.1.cell 1; have f2 : w7.cell? ⟨w.heap.size + 1, 2, none⟩ = some (.int .i64 tear) := L7.st.2.1.cell 2; have s7 : w7.cell? ⟨b5, 7, none⟩ = some (.slice A n c) := L7.bx.cell 7; have hldc := big_load0 Try.prog wr.heap.size 0 (wc ((zn : Int), o, p)) m (by rw [hwl, HM.out]) w7 x7.range0; have q7 : w7.cell? ⟨b8, zn, none⟩ = some (.int .i64 tz) := (by rw [L7.sn.cell zn]; exact HSN.out); have HL7 := Lib.hid L7; have HX7 := Lib.hid x7; clear x6 hB6 hg7 hB7 d8 hld; have x7s := L7.sn; clear L7 x7)
                    | ((with_reducible refine wpList_box_int (o := ⟨none, .store _ _ _, _, _, _, _⟩) rfl _ _ _ rfl b8 zn _ _ (tz + 1) _ rfl rfl x7s HSN.out size_i64 ?_); intro w8 hw8; have L8 := HL7.out.see zn (tz + 1); have X8 := HX7.out.grown (grown_setCell w7 ⟨b8, zn, none⟩ (.int .i64 (tz + 1))) (HX7.out.ne HL7.out.sn (by decide)); rw [← hw8] at L8 X8; clear hw8 z7 z8 e0 e7 e8 f0 f1 f2 s7 hldc q7 x7s; have z7 : w8.cell? ⟨wr.heap.size, 0, none⟩ = some (.int .i64 (zn : Int)) := X8.cell 0; have z8 : w8.cell? ⟨wr.heap.size, 1, none⟩ = some (.int .i64 o) := X8.cell 1; have e0 : w8.cell? ⟨w.heap.size, 0, none⟩ = some (.int .i64 conv) := (by rw [← HV.out.1]; exact L8.st.1.kd.1); have e7 : w8.cell? ⟨w.heap.size, 7, none⟩ = some (.slice As ns cs) := (by rw [← HV2.out.2.2.1]; exact L8.st.1.kdv.2.2.1); have e8 : w8.cell? ⟨w.heap.size, 8, none⟩ = some (.slice (some ⟨g, 0, none⟩) nc cc) := (by rw [← HV2.out.2.2.2]; exact L8.st.1.kdv.2.2.2); have f0 : w8.cell? ⟨w.heap.size + 1, 0, none⟩ = some (.slice keepA kn kc) := L8.st.2.1.cell 0; have f1 : w8.cell? ⟨w.heap.size + 1, 1, none⟩ = some (.int .u64 soft0) := L8.st.2.1.cell 1; have f2 : w8.cell? ⟨w.heap.size + 1, 2, none⟩ = some (.int .i64 tear) := L8.st.2.1.cell 2; have s7 : w8.cell? ⟨b5, 7, none⟩ = some (.slice A n c) := L8.bx.cell 7; have hldc := big_load0 Try.prog wr.heap.size 0 (wc ((zn : Int), o, p)) m (by rw [hwl, HM.out]) w8 X8.range0; have HL8 := Lib.hid L8; have HX8 := Lib.hid X8; clear L8 X8)
                    | fail)
                  have hstep : ckStep conv keep soft0 ⟨bt, so, sn, sf⟩ ((zn : Int), o, p) = ⟨bt, so, sn.set zn (tz + 1), sf⟩ := by
                    exact ckStep_not hz HTZ.out HKP.out HNL.out
                  have hno : ¬ (k + 1 = d.cached.length ∧ ckLeft conv keep soft0 ⟨bt, so, sn, sf⟩ ((zn : Int), o, p) = false ∧ ckNext conv keep ⟨bt, so, sn, sf⟩ ((zn : Int), o, p) = true ∧ 0 < tear) := by
                    have := HKL.out
                    have := HN.out.2.2.2.2.2.1
                    omega
                  go_roundw
                  case rel =>
                    refine ⟨k + 1, HLT.out, by go_num, ?_, ?_, A, n, c, ?_⟩
                    · rw [HX.out.1, hstep]
                    · rw [HX.out.1, hstep]
                    · rw [HX.out.2, hstep, if_neg hno, HX.out.1, hstep]
                      exact HL8.out
                  case measure => have := HLT.out; first | (simp [intOf]; done) | (simp [intOf]; omega)
            · have hnb2 : (tz == 0) = false := by simpa using hnx
              have HNX := Lib.hid hnb2
              clear hnx
              as_aux_lemma =>
                go_wp2_with (first
                  | ((with_reducible refine wpList_cell_alloc (o := ⟨some 10, .alloc _, _, _, _, _⟩) rfl rfl ?_); intro w6 x6 hB6 hs6; clear hs6)
                  | ((with_reducible refine wpList_cell_store (o := ⟨none, .store _ _ _, _, _, _, _⟩) rfl _ _ rfl wr.heap.size ((zn : Int), o, p) c00 hpl rfl rfl rfl x6 ?_); intro w7 x7 hg7 hs7; clear hs7; have hB7 : Below wr.heap.size wr w7 := below_stored hB6 hg7 hB6.size (Nat.le_refl _); have L7 := HL.out.on hB7; have z7 : w7.cell? ⟨wr.heap.size, 0, none⟩ = some (.int .i64 (zn : Int)) := x7.cell 0; have z8 : w7.cell? ⟨wr.heap.size, 1, none⟩ = some (.int .i64 o) := x7.cell 1; have e0 : w7.cell? ⟨w.heap.size, 0, none⟩ = some (.int .i64 conv) := (by rw [← HV.out.1]; exact L7.st.1.kd.1); have e7 : w7.cell? ⟨w.heap.size, 7, none⟩ = some (.slice As ns cs) := (by rw [← HV2.out.2.2.1]; exact L7.st.1.kdv.2.2.1); have e8 : w7.cell? ⟨w.heap.size, 8, none⟩ = some (.slice (some ⟨g, 0, none⟩) nc cc) := (by rw [← HV2.out.2.2.2]; exact L7.st.1.kdv.2.2.2); have f0 : w7.cell? ⟨w.heap.size + 1, 0, none⟩ = some (.slice keepA kn kc) := L7.st.2.1.cell 0; have f1 : w7.cell? ⟨w.heap.size + 1, 1, none⟩ = some (.int .u64 soft0) := L7.st.2.1.cell 1; have f2 : w7.cell? ⟨w.heap.size + 1, 2, none⟩ = some (.int .i64 tear) := L7.st.2.1.cell 2; have s7 : w7.cell? ⟨b5, 7, none⟩ = some (.slice A n c) := L7.bx.cell 7; have hldc := big_load0 Try.prog wr.heap.size 0 (wc ((zn : Int), o, p)) m (by rw [hwl, HM.out]) w7 x7.range0; have q7 : w7.cell? ⟨b8, zn, none⟩ = some (.int .i64 tz) := (by rw [L7.sn.cell zn]; exact HSN.out); have HL7 := Lib.hid L7; have HX7 := Lib.hid x7; clear x6 hB6 hg7 hB7 d8 hld; have x7s := L7.sn; clear L7 x7)
                  | ((with_reducible refine wpList_box_int (o := ⟨none, .store _ _ _, _, _, _, _⟩) rfl _ _ _ rfl b8 zn _ _ (tz + 1) _ rfl rfl x7s HSN.out size_i64 ?_); intro w8 hw8; have L8 := HL7.out.see zn (tz + 1); have X8 := HX7.out.grown (grown_setCell w7 ⟨b8, zn, none⟩ (.int .i64 (tz + 1))) (HX7.out.ne HL7.out.sn (by decide)); rw [← hw8] at L8 X8; clear hw8 z7 z8 e0 e7 e8 f0 f1 f2 s7 hldc q7 x7s; have z7 : w8.cell? ⟨wr.heap.size, 0, none⟩ = some (.int .i64 (zn : Int)) := X8.cell 0; have z8 : w8.cell? ⟨wr.heap.size, 1, none⟩ = some (.int .i64 o) := X8.cell 1; have e0 : w8.cell? ⟨w.heap.size, 0, none⟩ = some (.int .i64 conv) := (by rw [← HV.out.1]; exact L8.st.1.kd.1); have e7 : w8.cell? ⟨w.heap.size, 7, none⟩ = some (.slice As ns cs) := (by rw [← HV2.out.2.2.1]; exact L8.st.1.kdv.2.2.1); have e8 : w8.cell? ⟨w.heap.size, 8, none⟩ = some (.slice (some ⟨g, 0, none⟩) nc cc) := (by rw [← HV2.out.2.2.2]; exact L8.st.1.kdv.2.2.2); have f0 : w8.cell? ⟨w.heap.size + 1, 0, none⟩ = some (.slice keepA kn kc) := L8.st.2.1.cell 0; have f1 : w8.cell? ⟨w.heap.size + 1, 1, none⟩ = some (.int .u64 soft0) := L8.st.2.1.cell 1; have f2 : w8.cell? ⟨w.heap.size + 1, 2, none⟩ = some (.int .i64 tear) := L8.st.2.1.cell 2; have s7 : w8.cell? ⟨b5, 7, none⟩ = some (.slice A n c) := L8.bx.cell 7; have hldc := big_load0 Try.prog wr.heap.size 0 (wc ((zn : Int), o, p)) m (by rw [hwl, HM.out]) w8 X8.range0; have HL8 := Lib.hid L8; have HX8 := Lib.hid X8; clear L8 X8)
                  | fail)
                have hstep : ckStep conv keep soft0 ⟨bt, so, sn, sf⟩ ((zn : Int), o, p) = ⟨bt, so, sn.set zn (tz + 1), sf⟩ := by
                  exact ckStep_not hz HTZ.out HKP.out HNL.out
                have hno : ¬ (k + 1 = d.cached.length ∧ ckLeft conv keep soft0 ⟨bt, so, sn, sf⟩ ((zn : Int), o, p) = false ∧ ckNext conv keep ⟨bt, so, sn, sf⟩ ((zn : Int), o, p) = true ∧ 0 < tear) := by
                  rw [ckNext_seq hz HTZ.out HKP.out, HNX.out]
                  simp
                go_roundw
                case rel =>
                  refine ⟨k + 1, HLT.out, by go_num, ?_, ?_, A, n, c, ?_⟩
                  · rw [HX.out.1, hstep]
                  · rw [HX.out.1, hstep]
                  · rw [HX.out.2, hstep, if_neg hno, HX.out.1, hstep]
                    exact HL8.out
                case measure => have := HLT.out; first | (simp [intOf]; done) | (simp [intOf]; omega)
      · obtain rfl : k = nc := by omega
        have hS : SAt conv keep soft0 tear d k = safeK conv keep soft0 tear d := by rw [← HN.out.2.2.2.2.2.1]; exact SAt_end
        rw [hS] at hL
        clear hS
        have HSK := Lib.hid (safeK_ok (conv := conv) (keep := keep) (tear := tear) HO.out.2.1 HD.out.1 HD.out.2)
        have HCE := Lib.hid (crashK_eq (conv := conv) (size := size) (keep := keep) (soft0 := soft0) (tear := tear) (d := d))
        generalize safeK conv keep soft0 tear d = S at hL HSK HCE
        have HZ0 := Lib.hid (CrZ.start hL)
        have d8 : wr.cell? ⟨w.heap.size, 8, none⟩ = some (.slice Ac k cc) := by
          have := hL.st.1.kdv.2.2.2
          rw [HV2.out.2.2.2] at this
          exact this
        have e5 : wr.cell? ⟨w.heap.size, 5, none⟩ = some (.slice Az nz cz) := by
          have := hL.st.1.kdv.1
          rw [HV2.out.1] at this
          exact this
        clear hL hk hlt HK HS0
        as_aux_lemma =>
          go_wp2_with fail
          go_loopw [19] (fun i wr => ∃ (q : Nat) (A2 : Option Addr) (c2 : Nat), q ≤ nz ∧ i = .int .i64 q ∧ CrZ w wr v (wkc keepA kn kc soft0 tear) (zK conv soft seq size opn (.slice Ad nd cd) (.slice A n c) v.ill) b5 S A n c ((crL conv size S d).take q) A2 q c2) (fun i _ => nz - (intOf i).toNat)
          case atStart => exact ⟨0, none, 0, Nat.zero_le _, rfl, HZ0.out⟩
          case round =>
            clear HZ0 d8 e5
            obtain ⟨q, A2, c2, hq, rfl, hL⟩ := hrel
            have e5 : wr.cell? ⟨w.heap.size, 5, none⟩ = some (.slice Az nz cz) := by
              have := hL.st.1.kdv.1
              rw [HV2.out.1] at this
              exact this
            by_cases hlt : q < nz
            · have hzk : d.L[q]? = some (d.L.getD q (0, 0)) := by
                have : q < d.L.length := by rw [HN.out.1]; exact hlt
                simp [List.getD_eq_getElem?_getD, List.getElem?_eq_getElem this]
              obtain ⟨ad, rfl, hadb, z0, z1⟩ := ((HQ.out.2.2.1.rd.below hL.st.2.2.2.1).more hL.st.2.2.2.1.size).zone hzk
              have HTK := Lib.hid (crL_take (conv := conv) (size := size) (S := S) hzk)
              generalize d.L.getD q (0, 0) = x at HTK z0 z1
              obtain ⟨xs, xp⟩ := x
              dsimp only at z0 z1
              have HL := Lib.hid hL
              have hnz : (nz : Int) ≤ 64 := by have h1 := HN.out.2.1; have h2 := HO.out.1.2.2.1; omega
              have HQZ := Lib.hid (show (q : Int) < conv + seq by have := HN.out.2.1; omega)
              have hql : (q : Int) < (nz : Int) := by omega
              clear hL hzk hadb
              go_wp2_with (first
                | ((with_reducible refine wpList_zn_alloc (o := ⟨some 20, .alloc _, _, _, _, _⟩) rfl rfl ?_); intro w6 x6 hB6 hs6; clear hs6)
                | ((with_reducible refine wpList_zn_store (o := ⟨none, .store _ _ _, _, _, _, _⟩) rfl _ _ rfl wr.heap.size (xs, xp) (0, 0) rfl rfl x6 ?_); intro w7 x7 hg7 hs7; clear hs7; have HB7 := Lib.hid (below_stored hB6 hg7 hB6.size (Nat.le_refl _)); have HX7 := Lib.hid x7; clear x6 hB6 hg7 x7 e5 z0 z1)
                | fail)
              obtain ⟨b20, hb20⟩ : ∃ b, b = wr.heap.size := ⟨_, rfl⟩
              rw [← hb20] at HX7 ⊢
              have HB20 := Lib.hid hb20
              clear hb20
              obtain ⟨sec, hsec, hsec1, hsec2⟩ := sec_bd HO.out.1 (q : Int)
              have RS := Lib.hid fun w' => rsectors_any conv soft seq size opn (q : Int) w' HO.out.1.some
              rw [hsec] at RS
              have HSEC := Lib.hid hsec2
              have HHas := Lib.hid (fun W (hb : Below wr.heap.size wr W) => dhas_any Ad nd cd d.done (q : Int) W HN.out.2.2.1 (by have h1 := HN.out.2.2.2.1; have h2 := HN.out.2.2.2.2.2.2; omega) ((HQ.out.2.2.2.1.rd.below (HL.out.on hb).st.2.2.2.1).more (HL.out.on hb).st.2.2.2.1.size))
              clear hsec hsec2
              go_loopw [21] (fun i wt => ∃ j : Nat, j ≤ sec ∧ i = .int .i64 j ∧ (∀ i, i < j → (fnd S ((q : Int), (i : Int))).isSome = true) ∧ Below wr.heap.size wr wt ∧ Box wt b20 53 (zcs (xs, xp))) (fun i _ => sec - (intOf i).toNat)
              case atStart => exact ⟨0, Nat.zero_le _, rfl, fun i hi => by omega, HB7.out, HX7.out⟩
              case round =>
                clear HB7 HX7
                obtain ⟨j, hj, rfl, hall, hbel, hbx⟩ := hrel
                have HA := Lib.hid (And.intro hj hall)
                have HBE := Lib.hid hbel
                have HBX := Lib.hid hbx
                have g0 : wr.cell? ⟨w.heap.size, 0, none⟩ = some (.int .i64 conv) := by rw [← HV.out.1]; exact (HL.out.on hbel).st.1.kd.1
                have g1 : wr.cell? ⟨w.heap.size, 1, none⟩ = some (.int .i64 soft) := by rw [← HV.out.2.1]; exact (HL.out.on hbel).st.1.kd.2.1
                have g2 : wr.cell? ⟨w.heap.size, 2, none⟩ = some (.int .i64 seq) := by rw [← HV.out.2.2.1]; exact (HL.out.on hbel).st.1.kd.2.2.1
                have g3 : wr.cell? ⟨w.heap.size, 3, none⟩ = some (.int .i64 size) := by rw [← HV.out.2.2.2.1]; exact (HL.out.on hbel).st.1.kd.2.2.2.1
                have g4 : wr.cell? ⟨w.heap.size, 4, none⟩ = some (.int .i64 opn) := by rw [← HV.out.2.2.2.2]; exact (HL.out.on hbel).st.1.kd.2.2.2.2
                clear hbel hbx hj hall
                go_wp2_with fail
                refine (RS.out _).mono ?_
                rintro e w8 ⟨rfl, hb8⟩
                clear g0 g1 g2 g3 g4
                have HB8 := Lib.hid (bthen HBE.out hb8)
                have HX8 := Lib.hid (HBX.out.on hb8)
                clear hb8 HBE HBX
                by_cases hjs : j < sec
                · have hjsi : (j : Int) < (sec : Int) := by omega
                  have s7 : w8.cell? ⟨b5, 7, none⟩ = some (.slice A n c) := (HL.out.on HB8.out).bx.cell 7
                  go_wp2_with fail
                  refine (find_any A n c S ((q : Int), (j : Int)) w8 HL.out.len (by have h1 := HSK.out.2; have h2 := HL.out.len; have h3 := HQ.out.2.2.2.2.1; have h4 := HN.out.2.2.2.2.2.2; omega) HSK.out.1 (Row.own (HL.out.on HB8.out).own)).mono ?_
                  rintro e w9 ⟨rfl, hb9⟩
                  have HB9 := Lib.hid (bthen HB8.out hb9)
                  have HX9 := Lib.hid (HX8.out.on hb9)
                  clear hb9 HB8 HX8 s7
                  have HPL : Hid (((fnd S ((q : Int), (j : Int))).getD z64).length = 64) := Lib.hid (by
                    cases hfn : fnd S ((q : Int), (j : Int)) with
                    | none => rfl
                    | some p => exact fnd_wok HSK.out.1 hfn)
                  generalize hPg : (fnd S ((q : Int), (j : Int))).getD z64 = Pg at HPL ⊢
                  clear hPg
                  cases hfs : (fnd S ((q : Int), (j : Int))).isSome with
                  | true =>
                    have HFS := Lib.hid hfs
                    clear hfs
                    as_aux_lemma =>
                      go_wp2_with (first
                        | ((with_reducible refine wpList_pg_alloc (o := ⟨some 22, .alloc _, _, _, _, _⟩) rfl rfl ?_); intro w10 x10 hB10 hs10; clear hs10)
                        | ((with_reducible refine wpList_pg_store (o := ⟨none, .store _ _ _, _, _, _, _⟩) rfl _ _ rfl w9.heap.size Pg pg0 HPL.out rfl rfl rfl x10 ?_); intro w11 x11 hg11 hs11; clear hs11; have hb11 := below_stored hB10 hg11 hB10.size (Nat.le_refl _); have HB11 := Lib.hid (bthen HB9.out hb11); have HX11 := Lib.hid (HX9.out.on hb11); clear x10 hB10 x11 hg11 hb11)
                        | fail)
                      go_roundw
                      case rel =>
                        refine ⟨j + 1, by omega, by go_num, fun i hi => ?_, HB11.out, HX11.out⟩
                        by_cases hij : i = j
                        · rw [hij]; exact HFS.out
                        · exact HA.out.2 i (by omega)
                      case measure => first | (simp [intOf]; done) | (simp [intOf]; omega)
                  | false =>
                    have HFS := Lib.hid hfs
                    clear hfs
                    have HJ := Lib.hid (show leadK S (q : Int) 0 sec = j by
                      exact lead_at HA.out.1 HA.out.2 HFS.out)
                    by_cases hz : (q : Int) < conv
                    · have HVAL := Lib.hid (show (if (q : Int) < conv then ((xs, xp) : Z) else shutZ (decide ((q : Int) ∈ d.done)) size (leadK S (q : Int) 0 size.toNat)) = (xs, xp) from if_pos hz)
                      as_aux_lemma =>
                      go_wp2_with (first
                        | ((with_reducible refine wpList_pg_alloc (o := ⟨some 22, .alloc _, _, _, _, _⟩) rfl rfl ?_); intro w10 x10 hB10 hs10; clear hs10)
                        | ((with_reducible refine wpList_pg_store (o := ⟨none, .store _ _ _, _, _, _, _⟩) rfl _ _ rfl w9.heap.size Pg pg0 HPL.out rfl rfl rfl x10 ?_); intro w11 x11 hg11 hs11; clear hs11; have hb11 := below_stored hB10 hg11 hB10.size (Nat.le_refl _); have HB11 := Lib.hid (bthen HB9.out hb11); have HX11 := Lib.hid (HX9.out.on hb11); clear x10 hB10 x11 hg11 hb11; have e0 : w11.cell? ⟨w.heap.size, 0, none⟩ = some (.int .i64 conv) := (by rw [← HV.out.1]; exact (HL.out.on HB11.out).st.1.kd.1); have e3 : w11.cell? ⟨w.heap.size, 3, none⟩ = some (.int .i64 size) := (by rw [← HV.out.2.2.2.1]; exact (HL.out.on HB11.out).st.1.kd.2.2.2.1); have e6 : w11.cell? ⟨w.heap.size, 6, none⟩ = some (.slice Ad nd cd) := (by rw [← HV2.out.2.1]; exact (HL.out.on HB11.out).st.1.kdv.2.1); have s5 : w11.cell? ⟨b5, 5, none⟩ = some (.slice A2 q c2) := (HL.out.on HB11.out).bx.cell 5; have y0 : w11.cell? ⟨b20, 0, none⟩ = some (.int .i64 xs) := HX11.out.cell 0; have y1 : w11.cell? ⟨b20, 1, none⟩ = some (.int .i64 xp) := HX11.out.cell 1)
                        | (at_builtin; go_loud (refine wpList_append_new _ rfl _ _ _ rfl (w.heap.size + 3) 53 _ 2 16 elemZ (.slice A2 q c2) q _ rfl (zcs (xs, xp)) rfl (HL.out.on HB11.out).ownz rfl (fun u hu => zc_one (L := [(xs, xp)]) hu) (by simp only [maxLen]; omega) (by omega) (HL.out.on HB11.out).st.2.2.2.2 ?_); intro v1 w41 hown41 hg41; obtain ⟨A3, c3, rfl⟩ := own_slice hown41; have x41 := (HL.out.on HB11.out).five hg41; have HO41 := Lib.hid (And.intro hown41 hg41); clear hown41 hg41 e0 e3 e6 s5 y0 y1)
                        | ((with_reducible refine wpList_box_slice (o := ⟨none, .store _ _ _, _, _, _, _⟩) rfl _ _ _ rfl b5 5 _ _ A3 _ c3 _ rfl rfl x41 rfl size_rzones ?_); intro w42 hw42)
                        | fail)
                      go_roundw
                      case rel =>
                        refine ⟨q + 1, A3, c3, by omega, by go_num, ?_⟩
                        rw [HTK.out, HVAL.out]
                        exact (HL.out.on HB11.out).more HO41.out.2 HO41.out.1
                      case measure => first | (simp [intOf]; done) | (simp [intOf]; omega)
                    · have hs9 : (sec : Int) = size := HSEC.out (by omega) HQZ.out
                      have hst : size.toNat = sec := by omega
                      have HV0 := Lib.hid (show (if (q : Int) < conv then ((xs, xp) : Z) else shutZ (decide ((q : Int) ∈ d.done)) size (leadK S (q : Int) 0 size.toNat)) = shutZ (decide ((q : Int) ∈ d.done)) size (j : Int) by rw [if_neg hz, hst, HJ.out])
                      clear hst
                      have hs8 : 8 ≤ size := HO.out.1.2.2.2.1
                      cases hhas : decide ((q : Int) ∈ d.done) with
                      | true =>
                        rw [hhas] at HHas HV0 HTK
                        clear hhas
                        by_cases hj0 : j = 0
                        · subst hj0
                          have hns : ((0 : Int) == size) = false := by simp; omega
                          have HVAL := Lib.hid (HV0.out.trans (show shutZ true size ((0 : Nat) : Int) = (3, 0) from by unfold shutZ; rw [if_pos (.inl rfl)]; try rfl))
                          clear HV0
                          as_aux_lemma =>
                            go_wp2_with (first
                              | ((with_reducible refine wpList_pg_alloc (o := ⟨some 22, .alloc _, _, _, _, _⟩) rfl rfl ?_); intro w10 x10 hB10 hs10; clear hs10)
                              | ((with_reducible refine wpList_pg_store (o := ⟨none, .store _ _ _, _, _, _, _⟩) rfl _ _ rfl w9.heap.size Pg pg0 HPL.out rfl rfl rfl x10 ?_); intro w11 x11 hg11 hs11; clear hs11; have hb11 := below_stored hB10 hg11 hB10.size (Nat.le_refl _); have HB11 := Lib.hid (bthen HB9.out hb11); have HX11 := Lib.hid (HX9.out.on hb11); clear x10 hB10 x11 hg11 hb11; have e0 : w11.cell? ⟨w.heap.size, 0, none⟩ = some (.int .i64 conv) := (by rw [← HV.out.1]; exact (HL.out.on HB11.out).st.1.kd.1); have e3 : w11.cell? ⟨w.heap.size, 3, none⟩ = some (.int .i64 size) := (by rw [← HV.out.2.2.2.1]; exact (HL.out.on HB11.out).st.1.kd.2.2.2.1); have e6 : w11.cell? ⟨w.heap.size, 6, none⟩ = some (.slice Ad nd cd) := (by rw [← HV2.out.2.1]; exact (HL.out.on HB11.out).st.1.kdv.2.1); have s5 : w11.cell? ⟨b5, 5, none⟩ = some (.slice A2 q c2) := (HL.out.on HB11.out).bx.cell 5; have y0 : w11.cell? ⟨b20, 0, none⟩ = some (.int .i64 xs) := HX11.out.cell 0; have y1 : w11.cell? ⟨b20, 1, none⟩ = some (.int .i64 xp) := HX11.out.cell 1)
                              | ((with_reducible refine wpList_box_int (o := ⟨none, .store _ _ _, _, _, _, _⟩) rfl _ _ _ rfl b20 1 _ _ 0 _ rfl rfl HX11.out (zcs1 _ _) size_i64 ?_); intro w31 hw31; have HX31 := Lib.hid (show Box w31 b20 53 (zcs (xs, 0)) from (by rw [hw31]; exact HX11.out.set 1 _)); have HB31 := Lib.hid (show Below _ _ w31 from (by rw [hw31]; exact below_stored HB11.out (grown_setCell _ ⟨b20, 1, none⟩ _) HB11.out.size (by rw [HB20.out]; exact Nat.le_refl _))); clear hw31 e0 e3 e6 s5 y0 y1; have e0 : w31.cell? ⟨w.heap.size, 0, none⟩ = some (.int .i64 conv) := (by rw [← HV.out.1]; exact (HL.out.on HB31.out).st.1.kd.1); have e3 : w31.cell? ⟨w.heap.size, 3, none⟩ = some (.int .i64 size) := (by rw [← HV.out.2.2.2.1]; exact (HL.out.on HB31.out).st.1.kd.2.2.2.1); have e6 : w31.cell? ⟨w.heap.size, 6, none⟩ = some (.slice Ad nd cd) := (by rw [← HV2.out.2.1]; exact (HL.out.on HB31.out).st.1.kdv.2.1); have s5 : w31.cell? ⟨b5, 5, none⟩ = some (.slice A2 q c2) := (HL.out.on HB31.out).bx.cell 5; have y0 : w31.cell? ⟨b20, 0, none⟩ = some (.int .i64 xs) := HX31.out.cell 0; have y1 : w31.cell? ⟨b20, 1, none⟩ = some (.int .i64 0) := HX31.out.cell 1; clear HX11)
                              | ((with_reducible refine wpList_box_int (o := ⟨none, .store _ _ _, _, _, _, _⟩) rfl _ _ _ rfl b20 0 _ _ 2 _ rfl rfl HX31.out (zcs0 _ _) size_i64 ?_); intro w32 hw32; have HX32 := Lib.hid (show Box w32 b20 53 (zcs (2, 0)) from (by rw [hw32]; exact HX31.out.set 0 _)); have HB32 := Lib.hid (show Below _ _ w32 from (by rw [hw32]; exact below_stored HB31.out (grown_setCell _ ⟨b20, 0, none⟩ _) HB31.out.size (by rw [HB20.out]; exact Nat.le_refl _))); clear hw32 e0 e3 e6 s5 y0 y1; have e0 : w32.cell? ⟨w.heap.size, 0, none⟩ = some (.int .i64 conv) := (by rw [← HV.out.1]; exact (HL.out.on HB32.out).st.1.kd.1); have e3 : w32.cell? ⟨w.heap.size, 3, none⟩ = some (.int .i64 size) := (by rw [← HV.out.2.2.2.1]; exact (HL.out.on HB32.out).st.1.kd.2.2.2.1); have e6 : w32.cell? ⟨w.heap.size, 6, none⟩ = some (.slice Ad nd cd) := (by rw [← HV2.out.2.1]; exact (HL.out.on HB32.out).st.1.kdv.2.1); have s5 : w32.cell? ⟨b5, 5, none⟩ = some (.slice A2 q c2) := (HL.out.on HB32.out).bx.cell 5; have y0 : w32.cell? ⟨b20, 0, none⟩ = some (.int .i64 2) := HX32.out.cell 0; have y1 : w32.cell? ⟨b20, 1, none⟩ = some (.int .i64 0) := HX32.out.cell 1; clear HX31)
                              | ((with_reducible refine wpList_box_int (o := ⟨none, .store _ _ _, _, _, _, _⟩) rfl _ _ _ rfl b20 0 _ _ 0 _ rfl rfl HX32.out (zcs0 _ _) size_i64 ?_); intro w33 hw33; have HX33 := Lib.hid (show Box w33 b20 53 (zcs (0, 0)) from (by rw [hw33]; exact HX32.out.set 0 _)); have HB33 := Lib.hid (show Below _ _ w33 from (by rw [hw33]; exact below_stored HB32.out (grown_setCell _ ⟨b20, 0, none⟩ _) HB32.out.size (by rw [HB20.out]; exact Nat.le_refl _))); clear hw33 e0 e3 e6 s5 y0 y1; have e0 : w33.cell? ⟨w.heap.size, 0, none⟩ = some (.int .i64 conv) := (by rw [← HV.out.1]; exact (HL.out.on HB33.out).st.1.kd.1); have e3 : w33.cell? ⟨w.heap.size, 3, none⟩ = some (.int .i64 size) := (by rw [← HV.out.2.2.2.1]; exact (HL.out.on HB33.out).st.1.kd.2.2.2.1); have e6 : w33.cell? ⟨w.heap.size, 6, none⟩ = some (.slice Ad nd cd) := (by rw [← HV2.out.2.1]; exact (HL.out.on HB33.out).st.1.kdv.2.1); have s5 : w33.cell? ⟨b5, 5, none⟩ = some (.slice A2 q c2) := (HL.out.on HB33.out).bx.cell 5; have y0 : w33.cell? ⟨b20, 0, none⟩ = some (.int .i64 0) := HX33.out.cell 0; have y1 : w33.cell? ⟨b20, 1, none⟩ = some (.int .i64 0) := HX33.out.cell 1; clear HX32)
                              | ((with_reducible refine wpList_box_int (o := ⟨none, .store _ _ _, _, _, _, _⟩) rfl _ _ _ rfl b20 0 _ _ 3 _ rfl rfl HX33.out (zcs0 _ _) size_i64 ?_); intro w34 hw34; have HX34 := Lib.hid (show Box w34 b20 53 (zcs (3, 0)) from (by rw [hw34]; exact HX33.out.set 0 _)); have HB34 := Lib.hid (show Below _ _ w34 from (by rw [hw34]; exact below_stored HB33.out (grown_setCell _ ⟨b20, 0, none⟩ _) HB33.out.size (by rw [HB20.out]; exact Nat.le_refl _))); clear hw34 e0 e3 e6 s5 y0 y1; have e0 : w34.cell? ⟨w.heap.size, 0, none⟩ = some (.int .i64 conv) := (by rw [← HV.out.1]; exact (HL.out.on HB34.out).st.1.kd.1); have e3 : w34.cell? ⟨w.heap.size, 3, none⟩ = some (.int .i64 size) := (by rw [← HV.out.2.2.2.1]; exact (HL.out.on HB34.out).st.1.kd.2.2.2.1); have e6 : w34.cell? ⟨w.heap.size, 6, none⟩ = some (.slice Ad nd cd) := (by rw [← HV2.out.2.1]; exact (HL.out.on HB34.out).st.1.kdv.2.1); have s5 : w34.cell? ⟨b5, 5, none⟩ = some (.slice A2 q c2) := (HL.out.on HB34.out).bx.cell 5; have y0 : w34.cell? ⟨b20, 0, none⟩ = some (.int .i64 3) := HX34.out.cell 0; have y1 : w34.cell? ⟨b20, 1, none⟩ = some (.int .i64 0) := HX34.out.cell 1; clear HX33)
                              | (go_at_call 58; refine (HHas.out _ HB33.out).mono ?_; rintro e w' ⟨rfl, rfl⟩)
                              | (at_builtin; go_loud (refine wpList_append_new _ rfl _ _ _ rfl (w.heap.size + 3) 53 _ 2 16 elemZ (.slice A2 q c2) q _ rfl (zcs (3, 0)) rfl (HL.out.on HB34.out).ownz rfl (fun u hu => zc_one (L := [(3, 0)]) hu) (by simp only [maxLen]; omega) (by omega) (HL.out.on HB34.out).st.2.2.2.2 ?_); intro v1 w41 hown41 hg41; obtain ⟨A3, c3, rfl⟩ := own_slice hown41; have x41 := (HL.out.on HB34.out).five hg41; have HO41 := Lib.hid (And.intro hown41 hg41); clear hown41 hg41 e0 e3 e6 s5 y0 y1)
                              | ((with_reducible refine wpList_box_slice (o := ⟨none, .store _ _ _, _, _, _, _⟩) rfl _ _ _ rfl b5 5 _ _ A3 _ c3 _ rfl rfl x41 rfl size_rzones ?_); intro w42 hw42)
                              | fail)
                            go_roundw
                            case rel =>
                              refine ⟨q + 1, A3, c3, by omega, by go_num, ?_⟩
                              rw [HTK.out, HVAL.out]
                              exact (HL.out.on HB34.out).more HO41.out.2 HO41.out.1
                            case measure => first | (simp [intOf]; done) | (simp [intOf]; omega)
                        · have hj1 : ((j : Int) == 0) = false := by simp; omega
                          have hj2 : ¬ (j : Int) = 0 := by omega
                          have HJ2 := Lib.hid hj2
                          have HVAL := Lib.hid (HV0.out.trans (show shutZ true size (j : Int) = (3, (j : Int)) from by unfold shutZ; rw [if_pos (.inl rfl)]; try rfl))
                          clear HV0
                          as_aux_lemma =>
                            go_wp2_with (first
                              | ((with_reducible refine wpList_pg_alloc (o := ⟨some 22, .alloc _, _, _, _, _⟩) rfl rfl ?_); intro w10 x10 hB10 hs10; clear hs10)
                              | ((with_reducible refine wpList_pg_store (o := ⟨none, .store _ _ _, _, _, _, _⟩) rfl _ _ rfl w9.heap.size Pg pg0 HPL.out rfl rfl rfl x10 ?_); intro w11 x11 hg11 hs11; clear hs11; have hb11 := below_stored hB10 hg11 hB10.size (Nat.le_refl _); have HB11 := Lib.hid (bthen HB9.out hb11); have HX11 := Lib.hid (HX9.out.on hb11); clear x10 hB10 x11 hg11 hb11; have e0 : w11.cell? ⟨w.heap.size, 0, none⟩ = some (.int .i64 conv) := (by rw [← HV.out.1]; exact (HL.out.on HB11.out).st.1.kd.1); have e3 : w11.cell? ⟨w.heap.size, 3, none⟩ = some (.int .i64 size) := (by rw [← HV.out.2.2.2.1]; exact (HL.out.on HB11.out).st.1.kd.2.2.2.1); have e6 : w11.cell? ⟨w.heap.size, 6, none⟩ = some (.slice Ad nd cd) := (by rw [← HV2.out.2.1]; exact (HL.out.on HB11.out).st.1.kdv.2.1); have s5 : w11.cell? ⟨b5, 5, none⟩ = some (.slice A2 q c2) := (HL.out.on HB11.out).bx.cell 5; have y0 : w11.cell? ⟨b20, 0, none⟩ = some (.int .i64 xs) := HX11.out.cell 0; have y1 : w11.cell? ⟨b20, 1, none⟩ = some (.int .i64 xp) := HX11.out.cell 1)
                              | ((with_reducible refine wpList_box_int (o := ⟨none, .store _ _ _, _, _, _, _⟩) rfl _ _ _ rfl b20 1 _ _ (j : Int) _ rfl rfl HX11.out (zcs1 _ _) size_i64 ?_); intro w31 hw31; have HX31 := Lib.hid (show Box w31 b20 53 (zcs (xs, (j : Int))) from (by rw [hw31]; exact HX11.out.set 1 _)); have HB31 := Lib.hid (show Below _ _ w31 from (by rw [hw31]; exact below_stored HB11.out (grown_setCell _ ⟨b20, 1, none⟩ _) HB11.out.size (by rw [HB20.out]; exact Nat.le_refl _))); clear hw31 e0 e3 e6 s5 y0 y1; have e0 : w31.cell? ⟨w.heap.size, 0, none⟩ = some (.int .i64 conv) := (by rw [← HV.out.1]; exact (HL.out.on HB31.out).st.1.kd.1); have e3 : w31.cell? ⟨w.heap.size, 3, none⟩ = some (.int .i64 size) := (by rw [← HV.out.2.2.2.1]; exact (HL.out.on HB31.out).st.1.kd.2.2.2.1); have e6 : w31.cell? ⟨w.heap.size, 6, none⟩ = some (.slice Ad nd cd) := (by rw [← HV2.out.2.1]; exact (HL.out.on HB31.out).st.1.kdv.2.1); have s5 : w31.cell? ⟨b5, 5, none⟩ = some (.slice A2 q c2) := (HL.out.on HB31.out).bx.cell 5; have y0 : w31.cell? ⟨b20, 0, none⟩ = some (.int .i64 xs) := HX31.out.cell 0; have y1 : w31.cell? ⟨b20, 1, none⟩ = some (.int .i64 (j : Int)) := HX31.out.cell 1; clear HX11)
                              | ((with_reducible refine wpList_box_int (o := ⟨none, .store _ _ _, _, _, _, _⟩) rfl _ _ _ rfl b20 0 _ _ 2 _ rfl rfl HX31.out (zcs0 _ _) size_i64 ?_); intro w32 hw32; have HX32 := Lib.hid (show Box w32 b20 53 (zcs (2, (j : Int))) from (by rw [hw32]; exact HX31.out.set 0 _)); have HB32 := Lib.hid (show Below _ _ w32 from (by rw [hw32]; exact below_stored HB31.out (grown_setCell _ ⟨b20, 0, none⟩ _) HB31.out.size (by rw [HB20.out]; exact Nat.le_refl _))); clear hw32 e0 e3 e6 s5 y0 y1; have e0 : w32.cell? ⟨w.heap.size, 0, none⟩ = some (.int .i64 conv) := (by rw [← HV.out.1]; exact (HL.out.on HB32.out).st.1.kd.1); have e3 : w32.cell? ⟨w.heap.size, 3, none⟩ = some (.int .i64 size) := (by rw [← HV.out.2.2.2.1]; exact (HL.out.on HB32.out).st.1.kd.2.2.2.1); have e6 : w32.cell? ⟨w.heap.size, 6, none⟩ = some (.slice Ad nd cd) := (by rw [← HV2.out.2.1]; exact (HL.out.on HB32.out).st.1.kdv.2.1); have s5 : w32.cell? ⟨b5, 5, none⟩ = some (.slice A2 q c2) := (HL.out.on HB32.out).bx.cell 5; have y0 : w32.cell? ⟨b20, 0, none⟩ = some (.int .i64 2) := HX32.out.cell 0; have y1 : w32.cell? ⟨b20, 1, none⟩ = some (.int .i64 (j : Int)) := HX32.out.cell 1; clear HX31)
                              | ((with_reducible refine wpList_box_int (o := ⟨none, .store _ _ _, _, _, _, _⟩) rfl _ _ _ rfl b20 0 _ _ 3 _ rfl rfl HX32.out (zcs0 _ _) size_i64 ?_); intro w33 hw33; have HX33 := Lib.hid (show Box w33 b20 53 (zcs (3, (j : Int))) from (by rw [hw33]; exact HX32.out.set 0 _)); have HB33 := Lib.hid (show Below _ _ w33 from (by rw [hw33]; exact below_stored HB32.out (grown_setCell _ ⟨b20, 0, none⟩ _) HB32.out.size (by rw [HB20.out]; exact Nat.le_refl _))); clear hw33 e0 e3 e6 s5 y0 y1; have e0 : w33.cell? ⟨w.heap.size, 0, none⟩ = some (.int .i64 conv) := (by rw [← HV.out.1]; exact (HL.out.on HB33.out).st.1.kd.1); have e3 : w33.cell? ⟨w.heap.size, 3, none⟩ = some (.int .i64 size) := (by rw [← HV.out.2.2.2.1]; exact (HL.out.on HB33.out).st.1.kd.2.2.2.1); have e6 : w33.cell? ⟨w.heap.size, 6, none⟩ = some (.slice Ad nd cd) := (by rw [← HV2.out.2.1]; exact (HL.out.on HB33.out).st.1.kdv.2.1); have s5 : w33.cell? ⟨b5, 5, none⟩ = some (.slice A2 q c2) := (HL.out.on HB33.out).bx.cell 5; have y0 : w33.cell? ⟨b20, 0, none⟩ = some (.int .i64 3) := HX33.out.cell 0; have y1 : w33.cell? ⟨b20, 1, none⟩ = some (.int .i64 (j : Int)) := HX33.out.cell 1; clear HX32)
                              | (go_at_call 58; refine (HHas.out _ HB32.out).mono ?_; rintro e w' ⟨rfl, rfl⟩)
                              | (at_builtin; go_loud (refine wpList_append_new _ rfl _ _ _ rfl (w.heap.size + 3) 53 _ 2 16 elemZ (.slice A2 q c2) q _ rfl (zcs (3, (j : Int))) rfl (HL.out.on HB33.out).ownz rfl (fun u hu => zc_one (L := [(3, (j : Int))]) hu) (by simp only [maxLen]; omega) (by omega) (HL.out.on HB33.out).st.2.2.2.2 ?_); intro v1 w41 hown41 hg41; obtain ⟨A3, c3, rfl⟩ := own_slice hown41; have x41 := (HL.out.on HB33.out).five hg41; have HO41 := Lib.hid (And.intro hown41 hg41); clear hown41 hg41 e0 e3 e6 s5 y0 y1)
                              | ((with_reducible refine wpList_box_slice (o := ⟨none, .store _ _ _, _, _, _, _⟩) rfl _ _ _ rfl b5 5 _ _ A3 _ c3 _ rfl rfl x41 rfl size_rzones ?_); intro w42 hw42)
                              | fail)
                            go_roundw
                            case rel =>
                              refine ⟨q + 1, A3, c3, by omega, by go_num, ?_⟩
                              rw [HTK.out, HVAL.out]
                              exact (HL.out.on HB33.out).more HO41.out.2 HO41.out.1
                            case measure => first | (simp [intOf]; done) | (simp [intOf]; omega)
                      | false =>
                        rw [hhas] at HHas HV0 HTK
                        clear hhas
                        by_cases hj0 : j = 0
                        · subst hj0
                          have hns : ((0 : Int) == size) = false := by simp; omega
                          have HVAL := Lib.hid (HV0.out.trans (show shutZ false size ((0 : Nat) : Int) = (0, 0) from by unfold shutZ; rw [if_neg (by simp; omega), if_pos (show ((0 : Nat) : Int) = 0 from rfl)]; try rfl))
                          clear HV0
                          as_aux_lemma =>
                            go_wp2_with (first
                              | ((with_reducible refine wpList_pg_alloc (o := ⟨some 22, .alloc _, _, _, _, _⟩) rfl rfl ?_); intro w10 x10 hB10 hs10; clear hs10)
                              | ((with_reducible refine wpList_pg_store (o := ⟨none, .store _ _ _, _, _, _, _⟩) rfl _ _ rfl w9.heap.size Pg pg0 HPL.out rfl rfl rfl x10 ?_); intro w11 x11 hg11 hs11; clear hs11; have hb11 := below_stored hB10 hg11 hB10.size (Nat.le_refl _); have HB11 := Lib.hid (bthen HB9.out hb11); have HX11 := Lib.hid (HX9.out.on hb11); clear x10 hB10 x11 hg11 hb11; have e0 : w11.cell? ⟨w.heap.size, 0, none⟩ = some (.int .i64 conv) := (by rw [← HV.out.1]; exact (HL.out.on HB11.out).st.1.kd.1); have e3 : w11.cell? ⟨w.heap.size, 3, none⟩ = some (.int .i64 size) := (by rw [← HV.out.2.2.2.1]; exact (HL.out.on HB11.out).st.1.kd.2.2.2.1); have e6 : w11.cell? ⟨w.heap.size, 6, none⟩ = some (.slice Ad nd cd) := (by rw [← HV2.out.2.1]; exact (HL.out.on HB11.out).st.1.kdv.2.1); have s5 : w11.cell? ⟨b5, 5, none⟩ = some (.slice A2 q c2) := (HL.out.on HB11.out).bx.cell 5; have y0 : w11.cell? ⟨b20, 0, none⟩ = some (.int .i64 xs) := HX11.out.cell 0; have y1 : w11.cell? ⟨b20, 1, none⟩ = some (.int .i64 xp) := HX11.out.cell 1)
                              | ((with_reducible refine wpList_box_int (o := ⟨none, .store _ _ _, _, _, _, _⟩) rfl _ _ _ rfl b20 1 _ _ 0 _ rfl rfl HX11.out (zcs1 _ _) size_i64 ?_); intro w31 hw31; have HX31 := Lib.hid (show Box w31 b20 53 (zcs (xs, 0)) from (by rw [hw31]; exact HX11.out.set 1 _)); have HB31 := Lib.hid (show Below _ _ w31 from (by rw [hw31]; exact below_stored HB11.out (grown_setCell _ ⟨b20, 1, none⟩ _) HB11.out.size (by rw [HB20.out]; exact Nat.le_refl _))); clear hw31 e0 e3 e6 s5 y0 y1; have e0 : w31.cell? ⟨w.heap.size, 0, none⟩ = some (.int .i64 conv) := (by rw [← HV.out.1]; exact (HL.out.on HB31.out).st.1.kd.1); have e3 : w31.cell? ⟨w.heap.size, 3, none⟩ = some (.int .i64 size) := (by rw [← HV.out.2.2.2.1]; exact (HL.out.on HB31.out).st.1.kd.2.2.2.1); have e6 : w31.cell? ⟨w.heap.size, 6, none⟩ = some (.slice Ad nd cd) := (by rw [← HV2.out.2.1]; exact (HL.out.on HB31.out).st.1.kdv.2.1); have s5 : w31.cell? ⟨b5, 5, none⟩ = some (.slice A2 q c2) := (HL.out.on HB31.out).bx.cell 5; have y0 : w31.cell? ⟨b20, 0, none⟩ = some (.int .i64 xs) := HX31.out.cell 0; have y1 : w31.cell? ⟨b20, 1, none⟩ = some (.int .i64 0) := HX31.out.cell 1; clear HX11)
                              | ((with_reducible refine wpList_box_int (o := ⟨none, .store _ _ _, _, _, _, _⟩) rfl _ _ _ rfl b20 0 _ _ 2 _ rfl rfl HX31.out (zcs0 _ _) size_i64 ?_); intro w32 hw32; have HX32 := Lib.hid (show Box w32 b20 53 (zcs (2, 0)) from (by rw [hw32]; exact HX31.out.set 0 _)); have HB32 := Lib.hid (show Below _ _ w32 from (by rw [hw32]; exact below_stored HB31.out (grown_setCell _ ⟨b20, 0, none⟩ _) HB31.out.size (by rw [HB20.out]; exact Nat.le_refl _))); clear hw32 e0 e3 e6 s5 y0 y1; have e0 : w32.cell? ⟨w.heap.size, 0, none⟩ = some (.int .i64 conv) := (by rw [← HV.out.1]; exact (HL.out.on HB32.out).st.1.kd.1); have e3 : w32.cell? ⟨w.heap.size, 3, none⟩ = some (.int .i64 size) := (by rw [← HV.out.2.2.2.1]; exact (HL.out.on HB32.out).st.1.kd.2.2.2.1); have e6 : w32.cell? ⟨w.heap.size, 6, none⟩ = some (.slice Ad nd cd) := (by rw [← HV2.out.2.1]; exact (HL.out.on HB32.out).st.1.kdv.2.1); have s5 : w32.cell? ⟨b5, 5, none⟩ = some (.slice A2 q c2) := (HL.out.on HB32.out).bx.cell 5; have y0 : w32.cell? ⟨b20, 0, none⟩ = some (.int .i64 2) := HX32.out.cell 0; have y1 : w32.cell? ⟨b20, 1, none⟩ = some (.int .i64 0) := HX32.out.cell 1; clear HX31)
                              | ((with_reducible refine wpList_box_int (o := ⟨none, .store _ _ _, _, _, _, _⟩) rfl _ _ _ rfl b20 0 _ _ 0 _ rfl rfl HX32.out (zcs0 _ _) size_i64 ?_); intro w33 hw33; have HX33 := Lib.hid (show Box w33 b20 53 (zcs (0, 0)) from (by rw [hw33]; exact HX32.out.set 0 _)); have HB33 := Lib.hid (show Below _ _ w33 from (by rw [hw33]; exact below_stored HB32.out (grown_setCell _ ⟨b20, 0, none⟩ _) HB32.out.size (by rw [HB20.out]; exact Nat.le_refl _))); clear hw33 e0 e3 e6 s5 y0 y1; have e0 : w33.cell? ⟨w.heap.size, 0, none⟩ = some (.int .i64 conv) := (by rw [← HV.out.1]; exact (HL.out.on HB33.out).st.1.kd.1); have e3 : w33.cell? ⟨w.heap.size, 3, none⟩ = some (.int .i64 size) := (by rw [← HV.out.2.2.2.1]; exact (HL.out.on HB33.out).st.1.kd.2.2.2.1); have e6 : w33.cell? ⟨w.heap.size, 6, none⟩ = some (.slice Ad nd cd) := (by rw [← HV2.out.2.1]; exact (HL.out.on HB33.out).st.1.kdv.2.1); have s5 : w33.cell? ⟨b5, 5, none⟩ = some (.slice A2 q c2) := (HL.out.on HB33.out).bx.cell 5; have y0 : w33.cell? ⟨b20, 0, none⟩ = some (.int .i64 0) := HX33.out.cell 0; have y1 : w33.cell? ⟨b20, 1, none⟩ = some (.int .i64 0) := HX33.out.cell 1; clear HX32)
                              | (go_at_call 58; refine (HHas.out _ HB33.out).mono ?_; rintro e w' ⟨rfl, rfl⟩)
                              | (at_builtin; go_loud (refine wpList_append_new _ rfl _ _ _ rfl (w.heap.size + 3) 53 _ 2 16 elemZ (.slice A2 q c2) q _ rfl (zcs (0, 0)) rfl (HL.out.on HB33.out).ownz rfl (fun u hu => zc_one (L := [(0, 0)]) hu) (by simp only [maxLen]; omega) (by omega) (HL.out.on HB33.out).st.2.2.2.2 ?_); intro v1 w41 hown41 hg41; obtain ⟨A3, c3, rfl⟩ := own_slice hown41; have x41 := (HL.out.on HB33.out).five hg41; have HO41 := Lib.hid (And.intro hown41 hg41); clear hown41 hg41 e0 e3 e6 s5 y0 y1)
                              | ((with_reducible refine wpList_box_slice (o := ⟨none, .store _ _ _, _, _, _, _⟩) rfl _ _ _ rfl b5 5 _ _ A3 _ c3 _ rfl rfl x41 rfl size_rzones ?_); intro w42 hw42)
                              | fail)
                            go_roundw
                            case rel =>
                              refine ⟨q + 1, A3, c3, by omega, by go_num, ?_⟩
                              rw [HTK.out, HVAL.out]
                              exact (HL.out.on HB33.out).more HO41.out.2 HO41.out.1
                            case measure => first | (simp [intOf]; done) | (simp [intOf]; omega)
                        · have hj1 : ((j : Int) == 0) = false := by simp; omega
                          have hj2 : ¬ (j : Int) = 0 := by omega
                          have HJ2 := Lib.hid hj2
                          by_cases hns0 : (j : Int) = size
                          · have hns : ((j : Int) == size) = true := by simp [hns0]
                            have HVAL := Lib.hid (HV0.out.trans (show shutZ false size (j : Int) = (3, (j : Int)) from by unfold shutZ; rw [if_pos (.inr hns0)]))
                            clear HV0 hns0
                            as_aux_lemma =>
                              go_wp2_with (first
                                | ((with_reducible refine wpList_pg_alloc (o := ⟨some 22, .alloc _, _, _, _, _⟩) rfl rfl ?_); intro w10 x10 hB10 hs10; clear hs10)
                                | ((with_reducible refine wpList_pg_store (o := ⟨none, .store _ _ _, _, _, _, _⟩) rfl _ _ rfl w9.heap.size Pg pg0 HPL.out rfl rfl rfl x10 ?_); intro w11 x11 hg11 hs11; clear hs11; have hb11 := below_stored hB10 hg11 hB10.size (Nat.le_refl _); have HB11 := Lib.hid (bthen HB9.out hb11); have HX11 := Lib.hid (HX9.out.on hb11); clear x10 hB10 x11 hg11 hb11; have e0 : w11.cell? ⟨w.heap.size, 0, none⟩ = some (.int .i64 conv) := (by rw [← HV.out.1]; exact (HL.out.on HB11.out).st.1.kd.1); have e3 : w11.cell? ⟨w.heap.size, 3, none⟩ = some (.int .i64 size) := (by rw [← HV.out.2.2.2.1]; exact (HL.out.on HB11.out).st.1.kd.2.2.2.1); have e6 : w11.cell? ⟨w.heap.size, 6, none⟩ = some (.slice Ad nd cd) := (by rw [← HV2.out.2.1]; exact (HL.out.on HB11.out).st.1.kdv.2.1); have s5 : w11.cell? ⟨b5, 5, none⟩ = some (.slice A2 q c2) := (HL.out.on HB11.out).bx.cell 5; have y0 : w11.cell? ⟨b20, 0, none⟩ = some (.int .i64 xs) := HX11.out.cell 0; have y1 : w11.cell? ⟨b20, 1, none⟩ = some (.int .i64 xp) := HX11.out.cell 1)
                                | ((with_reducible refine wpList_box_int (o := ⟨none, .store _ _ _, _, _, _, _⟩) rfl _ _ _ rfl b20 1 _ _ (j : Int) _ rfl rfl HX11.out (zcs1 _ _) size_i64 ?_); intro w31 hw31; have HX31 := Lib.hid (show Box w31 b20 53 (zcs (xs, (j : Int))) from (by rw [hw31]; exact HX11.out.set 1 _)); have HB31 := Lib.hid (show Below _ _ w31 from (by rw [hw31]; exact below_stored HB11.out (grown_setCell _ ⟨b20, 1, none⟩ _) HB11.out.size (by rw [HB20.out]; exact Nat.le_refl _))); clear hw31 e0 e3 e6 s5 y0 y1; have e0 : w31.cell? ⟨w.heap.size, 0, none⟩ = some (.int .i64 conv) := (by rw [← HV.out.1]; exact (HL.out.on HB31.out).st.1.kd.1); have e3 : w31.cell? ⟨w.heap.size, 3, none⟩ = some (.int .i64 size) := (by rw [← HV.out.2.2.2.1]; exact (HL.out.on HB31.out).st.1.kd.2.2.2.1); have e6 : w31.cell? ⟨w.heap.size, 6, none⟩ = some (.slice Ad nd cd) := (by rw [← HV2.out.2.1]; exact (HL.out.on HB31.out).st.1.kdv.2.1); have s5 : w31.cell? ⟨b5, 5, none⟩ = some (.slice A2 q c2) := (HL.out.on HB31.out).bx.cell 5; have y0 : w31.cell? ⟨b20, 0, none⟩ = some (.int .i64 xs) := HX31.out.cell 0; have y1 : w31.cell? ⟨b20, 1, none⟩ = some (.int .i64 (j : Int)) := HX31.out.cell 1; clear HX11)
                                | ((with_reducible refine wpList_box_int (o := ⟨none, .store _ _ _, _, _, _, _⟩) rfl _ _ _ rfl b20 0 _ _ 2 _ rfl rfl HX31.out (zcs0 _ _) size_i64 ?_); intro w32 hw32; have HX32 := Lib.hid (show Box w32 b20 53 (zcs (2, (j : Int))) from (by rw [hw32]; exact HX31.out.set 0 _)); have HB32 := Lib.hid (show Below _ _ w32 from (by rw [hw32]; exact below_stored HB31.out (grown_setCell _ ⟨b20, 0, none⟩ _) HB31.out.size (by rw [HB20.out]; exact Nat.le_refl _))); clear hw32 e0 e3 e6 s5 y0 y1; have e0 : w32.cell? ⟨w.heap.size, 0, none⟩ = some (.int .i64 conv) := (by rw [← HV.out.1]; exact (HL.out.on HB32.out).st.1.kd.1); have e3 : w32.cell? ⟨w.heap.size, 3, none⟩ = some (.int .i64 size) := (by rw [← HV.out.2.2.2.1]; exact (HL.out.on HB32.out).st.1.kd.2.2.2.1); have e6 : w32.cell? ⟨w.heap.size, 6, none⟩ = some (.slice Ad nd cd) := (by rw [← HV2.out.2.1]; exact (HL.out.on HB32.out).st.1.kdv.2.1); have s5 : w32.cell? ⟨b5, 5, none⟩ = some (.slice A2 q c2) := (HL.out.on HB32.out).bx.cell 5; have y0 : w32.cell? ⟨b20, 0, none⟩ = some (.int .i64 2) := HX32.out.cell 0; have y1 : w32.cell? ⟨b20, 1, none⟩ = some (.int .i64 (j : Int)) := HX32.out.cell 1; clear HX31)
                                | ((with_reducible refine wpList_box_int (o := ⟨none, .store _ _ _, _, _, _, _⟩) rfl _ _ _ rfl b20 0 _ _ 3 _ rfl rfl HX32.out (zcs0 _ _) size_i64 ?_); intro w33 hw33; have HX33 := Lib.hid (show Box w33 b20 53 (zcs (3, (j : Int))) from (by rw [hw33]; exact HX32.out.set 0 _)); have HB33 := Lib.hid (show Below _ _ w33 from (by rw [hw33]; exact below_stored HB32.out (grown_setCell _ ⟨b20, 0, none⟩ _) HB32.out.size (by rw [HB20.out]; exact Nat.le_refl _))); clear hw33 e0 e3 e6 s5 y0 y1; have e0 : w33.cell? ⟨w.heap.size, 0, none⟩ = some (.int .i64 conv) := (by rw [← HV.out.1]; exact (HL.out.on HB33.out).st.1.kd.1); have e3 : w33.cell? ⟨w.heap.size, 3, none⟩ = some (.int .i64 size) := (by rw [← HV.out.2.2.2.1]; exact (HL.out.on HB33.out).st.1.kd.2.2.2.1); have e6 : w33.cell? ⟨w.heap.size, 6, none⟩ = some (.slice Ad nd cd) := (by rw [← HV2.out.2.1]; exact (HL.out.on HB33.out).st.1.kdv.2.1); have s5 : w33.cell? ⟨b5, 5, none⟩ = some (.slice A2 q c2) := (HL.out.on HB33.out).bx.cell 5; have y0 : w33.cell? ⟨b20, 0, none⟩ = some (.int .i64 3) := HX33.out.cell 0; have y1 : w33.cell? ⟨b20, 1, none⟩ = some (.int .i64 (j : Int)) := HX33.out.cell 1; clear HX32)
                                | (go_at_call 58; refine (HHas.out _ HB32.out).mono ?_; rintro e w' ⟨rfl, rfl⟩)
                                | (at_builtin; go_loud (refine wpList_append_new _ rfl _ _ _ rfl (w.heap.size + 3) 53 _ 2 16 elemZ (.slice A2 q c2) q _ rfl (zcs (3, (j : Int))) rfl (HL.out.on HB33.out).ownz rfl (fun u hu => zc_one (L := [(3, (j : Int))]) hu) (by simp only [maxLen]; omega) (by omega) (HL.out.on HB33.out).st.2.2.2.2 ?_); intro v1 w41 hown41 hg41; obtain ⟨A3, c3, rfl⟩ := own_slice hown41; have x41 := (HL.out.on HB33.out).five hg41; have HO41 := Lib.hid (And.intro hown41 hg41); clear hown41 hg41 e0 e3 e6 s5 y0 y1)
                                | ((with_reducible refine wpList_box_slice (o := ⟨none, .store _ _ _, _, _, _, _⟩) rfl _ _ _ rfl b5 5 _ _ A3 _ c3 _ rfl rfl x41 rfl size_rzones ?_); intro w42 hw42)
                                | fail)
                              go_roundw
                              case rel =>
                                refine ⟨q + 1, A3, c3, by omega, by go_num, ?_⟩
                                rw [HTK.out, HVAL.out]
                                exact (HL.out.on HB33.out).more HO41.out.2 HO41.out.1
                              case measure => first | (simp [intOf]; done) | (simp [intOf]; omega)
                          · have hns : ((j : Int) == size) = false := by simp [hns0]
                            have HVAL := Lib.hid (HV0.out.trans (show shutZ false size (j : Int) = (2, (j : Int)) from by unfold shutZ; rw [if_neg (by simp; exact hns0), if_neg HJ2.out]))
                            clear HV0 hns0
                            as_aux_lemma =>
                              go_wp2_with (first
                                | ((with_reducible refine wpList_pg_alloc (o := ⟨some 22, .alloc _, _, _, _, _⟩) rfl rfl ?_); intro w10 x10 hB10 hs10; clear hs10)
                                | ((with_reducible refine wpList_pg_store (o := ⟨none, .store _ _ _, _, _, _, _⟩) rfl _ _ rfl w9.heap.size Pg pg0 HPL.out rfl rfl rfl x10 ?_); intro w11 x11 hg11 hs11; clear hs11; have hb11 := below_stored hB10 hg11 hB10.size (Nat.le_refl _); have HB11 := Lib.hid (bthen HB9.out hb11); have HX11 := Lib.hid (HX9.out.on hb11); clear x10 hB10 x11 hg11 hb11; have e0 : w11.cell? ⟨w.heap.size, 0, none⟩ = some (.int .i64 conv) := (by rw [← HV.out.1]; exact (HL.out.on HB11.out).st.1.kd.1); have e3 : w11.cell? ⟨w.heap.size, 3, none⟩ = some (.int .i64 size) := (by rw [← HV.out.2.2.2.1]; exact (HL.out.on HB11.out).st.1.kd.2.2.2.1); have e6 : w11.cell? ⟨w.heap.size, 6, none⟩ = some (.slice Ad nd cd) := (by rw [← HV2.out.2.1]; exact (HL.out.on HB11.out).st.1.kdv.2.1); have s5 : w11.cell? ⟨b5, 5, none⟩ = some (.slice A2 q c2) := (HL.out.on HB11.out).bx.cell 5; have y0 : w11.cell? ⟨b20, 0, none⟩ = some (.int .i64 xs) := HX11.out.cell 0; have y1 : w11.cell? ⟨b20, 1, none⟩ = some (.int .i64 xp) := HX11.out.cell 1)
                                | ((with_reducible refine wpList_box_int (o := ⟨none, .store _ _ _, _, _, _, _⟩) rfl _ _ _ rfl b20 1 _ _ (j : Int) _ rfl rfl HX11.out (zcs1 _ _) size_i64 ?_); intro w31 hw31; have HX31 := Lib.hid (show Box w31 b20 53 (zcs (xs, (j : Int))) from (by rw [hw31]; exact HX11.out.set 1 _)); have HB31 := Lib.hid (show Below _ _ w31 from (by rw [hw31]; exact below_stored HB11.out (grown_setCell _ ⟨b20, 1, none⟩ _) HB11.out.size (by rw [HB20.out]; exact Nat.le_refl _))); clear hw31 e0 e3 e6 s5 y0 y1; have e0 : w31.cell? ⟨w.heap.size, 0, none⟩ = some (.int .i64 conv) := (by rw [← HV.out.1]; exact (HL.out.on HB31.out).st.1.kd.1); have e3 : w31.cell? ⟨w.heap.size, 3, none⟩ = some (.int .i64 size) := (by rw [← HV.out.2.2.2.1]; exact (HL.out.on HB31.out).st.1.kd.2.2.2.1); have e6 : w31.cell? ⟨w.heap.size, 6, none⟩ = some (.slice Ad nd cd) := (by rw [← HV2.out.2.1]; exact (HL.out.on HB31.out).st.1.kdv.2.1); have s5 : w31.cell? ⟨b5, 5, none⟩ = some (.slice A2 q c2) := (HL.out.on HB31.out).bx.cell 5; have y0 : w31.cell? ⟨b20, 0, none⟩ = some (.int .i64 xs) := HX31.out.cell 0; have y1 : w31.cell? ⟨b20, 1, none⟩ = some (.int .i64 (j : Int)) := HX31.out.cell 1; clear HX11)
                                | ((with_reducible refine wpList_box_int (o := ⟨none, .store _ _ _, _, _, _, _⟩) rfl _ _ _ rfl b20 0 _ _ 2 _ rfl rfl HX31.out (zcs0 _ _) size_i64 ?_); intro w32 hw32; have HX32 := Lib.hid (show Box w32 b20 53 (zcs (2, (j : Int))) from (by rw [hw32]; exact HX31.out.set 0 _)); have HB32 := Lib.hid (show Below _ _ w32 from (by rw [hw32]; exact below_stored HB31.out (grown_setCell _ ⟨b20, 0, none⟩ _) HB31.out.size (by rw [HB20.out]; exact Nat.le_refl _))); clear hw32 e0 e3 e6 s5 y0 y1; have e0 : w32.cell? ⟨w.heap.size, 0, none⟩ = some (.int .i64 conv) := (by rw [← HV.out.1]; exact (HL.out.on HB32.out).st.1.kd.1); have e3 : w32.cell? ⟨w.heap.size, 3, none⟩ = some (.int .i64 size) := (by rw [← HV.out.2.2.2.1]; exact (HL.out.on HB32.out).st.1.kd.2.2.2.1); have e6 : w32.cell? ⟨w.heap.size, 6, none⟩ = some (.slice Ad nd cd) := (by rw [← HV2.out.2.1]; exact (HL.out.on HB32.out).st.1.kdv.2.1); have s5 : w32.cell? ⟨b5, 5, none⟩ = some (.slice A2 q c2) := (HL.out.on HB32.out).bx.cell 5; have y0 : w32.cell? ⟨b20, 0, none⟩ = some (.int .i64 2) := HX32.out.cell 0; have y1 : w32.cell? ⟨b20, 1, none⟩ = some (.int .i64 (j : Int)) := HX32.out.cell 1; clear HX31)
                                | (go_at_call 58; refine (HHas.out _ HB32.out).mono ?_; rintro e w' ⟨rfl, rfl⟩)
                                | (at_builtin; go_loud (refine wpList_append_new _ rfl _ _ _ rfl (w.heap.size + 3) 53 _ 2 16 elemZ (.slice A2 q c2) q _ rfl (zcs (2, (j : Int))) rfl (HL.out.on HB32.out).ownz rfl (fun u hu => zc_one (L := [(2, (j : Int))]) hu) (by simp only [maxLen]; omega) (by omega) (HL.out.on HB32.out).st.2.2.2.2 ?_); intro v1 w41 hown41 hg41; obtain ⟨A3, c3, rfl⟩ := own_slice hown41; have x41 := (HL.out.on HB32.out).five hg41; have HO41 := Lib.hid (And.intro hown41 hg41); clear hown41 hg41 e0 e3 e6 s5 y0 y1)
                                | ((with_reducible refine wpList_box_slice (o := ⟨none, .store _ _ _, _, _, _, _⟩) rfl _ _ _ rfl b5 5 _ _ A3 _ c3 _ rfl rfl x41 rfl size_rzones ?_); intro w42 hw42)
                                | fail)
                              go_roundw
                              case rel =>
                                refine ⟨q + 1, A3, c3, by omega, by go_num, ?_⟩
                                rw [HTK.out, HVAL.out]
                                exact (HL.out.on HB32.out).more HO41.out.2 HO41.out.1
                              case measure => first | (simp [intOf]; done) | (simp [intOf]; omega)
                · have HJE := Lib.hid (show j = sec by have := HA.out.1; omega)
                  have hjsi : ¬ (j : Int) < (sec : Int) := by omega
                  have HJ := Lib.hid (show leadK S (q : Int) 0 sec = j by
                    rw [← HJE.out]
                    exact lead_all HA.out.2)
                  by_cases hz : (q : Int) < conv
                  · have HVAL := Lib.hid (show (if (q : Int) < conv then ((xs, xp) : Z) else shutZ (decide ((q : Int) ∈ d.done)) size (leadK S (q : Int) 0 size.toNat)) = (xs, xp) from if_pos hz)
                    as_aux_lemma =>
                    have e0 : w8.cell? ⟨w.heap.size, 0, none⟩ = some (.int .i64 conv) := (by rw [← HV.out.1]; exact (HL.out.on HB8.out).st.1.kd.1)
                    have e3 : w8.cell? ⟨w.heap.size, 3, none⟩ = some (.int .i64 size) := (by rw [← HV.out.2.2.2.1]; exact (HL.out.on HB8.out).st.1.kd.2.2.2.1)
                    have e6 : w8.cell? ⟨w.heap.size, 6, none⟩ = some (.slice Ad nd cd) := (by rw [← HV2.out.2.1]; exact (HL.out.on HB8.out).st.1.kdv.2.1)
                    have s5 : w8.cell? ⟨b5, 5, none⟩ = some (.slice A2 q c2) := (HL.out.on HB8.out).bx.cell 5
                    have y0 : w8.cell? ⟨b20, 0, none⟩ = some (.int .i64 xs) := HX8.out.cell 0
                    have y1 : w8.cell? ⟨b20, 1, none⟩ = some (.int .i64 xp) := HX8.out.cell 1
                    go_wp2_with (first
                      | (at_builtin; go_loud (refine wpList_append_new _ rfl _ _ _ rfl (w.heap.size + 3) 53 _ 2 16 elemZ (.slice A2 q c2) q _ rfl (zcs (xs, xp)) rfl (HL.out.on HB8.out).ownz rfl (fun u hu => zc_one (L := [(xs, xp)]) hu) (by simp only [maxLen]; omega) (by omega) (HL.out.on HB8.out).st.2.2.2.2 ?_); intro v1 w41 hown41 hg41; obtain ⟨A3, c3, rfl⟩ := own_slice hown41; have x41 := (HL.out.on HB8.out).five hg41; have HO41 := Lib.hid (And.intro hown41 hg41); clear hown41 hg41 e0 e3 e6 s5 y0 y1)
                      | ((with_reducible refine wpList_box_slice (o := ⟨none, .store _ _ _, _, _, _, _⟩) rfl _ _ _ rfl b5 5 _ _ A3 _ c3 _ rfl rfl x41 rfl size_rzones ?_); intro w42 hw42)
                      | fail)
                    go_roundw
                    case rel =>
                      refine ⟨q + 1, A3, c3, by omega, by go_num, ?_⟩
                      rw [HTK.out, HVAL.out]
                      exact (HL.out.on HB8.out).more HO41.out.2 HO41.out.1
                    case measure => first | (simp [intOf]; done) | (simp [intOf]; omega)
                  · have hs9 : (sec : Int) = size := HSEC.out (by omega) HQZ.out
                    have hst : size.toNat = sec := by omega
                    have HV0 := Lib.hid (show (if (q : Int) < conv then ((xs, xp) : Z) else shutZ (decide ((q : Int) ∈ d.done)) size (leadK S (q : Int) 0 size.toNat)) = shutZ (decide ((q : Int) ∈ d.done)) size (j : Int) by rw [if_neg hz, hst, HJ.out])
                    clear hst
                    have hs8 : 8 ≤ size := HO.out.1.2.2.2.1
                    cases hhas : decide ((q : Int) ∈ d.done) with
                    | true =>
                      rw [hhas] at HHas HV0 HTK
                      clear hhas
                      have hj1 : ((j : Int) == 0) = false := by have := HJE.out; simp; omega
                      have hns0 : (j : Int) = size := by have := HJE.out; omega
                      have HVAL := Lib.hid (HV0.out.trans (show shutZ true size (j : Int) = (3, (j : Int)) from by unfold shutZ; rw [if_pos (.inl rfl)]))
                      clear HV0 hns0
                      as_aux_lemma =>
                        have e0 : w8.cell? ⟨w.heap.size, 0, none⟩ = some (.int .i64 conv) := (by rw [← HV.out.1]; exact (HL.out.on HB8.out).st.1.kd.1)
                        have e3 : w8.cell? ⟨w.heap.size, 3, none⟩ = some (.int .i64 size) := (by rw [← HV.out.2.2.2.1]; exact (HL.out.on HB8.out).st.1.kd.2.2.2.1)
                        have e6 : w8.cell? ⟨w.heap.size, 6, none⟩ = some (.slice Ad nd cd) := (by rw [← HV2.out.2.1]; exact (HL.out.on HB8.out).st.1.kdv.2.1)
                        have s5 : w8.cell? ⟨b5, 5, none⟩ = some (.slice A2 q c2) := (HL.out.on HB8.out).bx.cell 5
                        have y0 : w8.cell? ⟨b20, 0, none⟩ = some (.int .i64 xs) := HX8.out.cell 0
                        have y1 : w8.cell? ⟨b20, 1, none⟩ = some (.int .i64 xp) := HX8.out.cell 1
                        go_wp2_with (first
                          | ((with_reducible refine wpList_box_int (o := ⟨none, .store _ _ _, _, _, _, _⟩) rfl _ _ _ rfl b20 1 _ _ (j : Int) _ rfl rfl HX8.out (zcs1 _ _) size_i64 ?_); intro w31 hw31; have HX31 := Lib.hid (show Box w31 b20 53 (zcs (xs, (j : Int))) from (by rw [hw31]; exact HX8.out.set 1 _)); have HB31 := Lib.hid (show Below _ _ w31 from (by rw [hw31]; exact below_stored HB8.out (grown_setCell _ ⟨b20, 1, none⟩ _) HB8.out.size (by rw [HB20.out]; exact Nat.le_refl _))); clear hw31 e0 e3 e6 s5 y0 y1; have e0 : w31.cell? ⟨w.heap.size, 0, none⟩ = some (.int .i64 conv) := (by rw [← HV.out.1]; exact (HL.out.on HB31.out).st.1.kd.1); have e3 : w31.cell? ⟨w.heap.size, 3, none⟩ = some (.int .i64 size) := (by rw [← HV.out.2.2.2.1]; exact (HL.out.on HB31.out).st.1.kd.2.2.2.1); have e6 : w31.cell? ⟨w.heap.size, 6, none⟩ = some (.slice Ad nd cd) := (by rw [← HV2.out.2.1]; exact (HL.out.on HB31.out).st.1.kdv.2.1); have s5 : w31.cell? ⟨b5, 5, none⟩ = some (.slice A2 q c2) := (HL.out.on HB31.out).bx.cell 5; have y0 : w31.cell? ⟨b20, 0, none⟩ = some (.int .i64 xs) := HX31.out.cell 0; have y1 : w31.cell? ⟨b20, 1, none⟩ = some (.int .i64 (j : Int)) := HX31.out.cell 1; clear HX8)
                          | ((with_reducible refine wpList_box_int (o := ⟨none, .store _ _ _, _, _, _, _⟩) rfl _ _ _ rfl b20 0 _ _ 2 _ rfl rfl HX31.out (zcs0 _ _) size_i64 ?_); intro w32 hw32; have HX32 := Lib.hid (show Box w32 b20 53 (zcs (2, (j : Int))) from (by rw [hw32]; exact HX31.out.set 0 _)); have HB32 := Lib.hid (show Below _ _ w32 from (by rw [hw32]; exact below_stored HB31.out (grown_setCell _ ⟨b20, 0, none⟩ _) HB31.out.size (by rw [HB20.out]; exact Nat.le_refl _))); clear hw32 e0 e3 e6 s5 y0 y1; have e0 : w32.cell? ⟨w.heap.size, 0, none⟩ = some (.int .i64 conv) := (by rw [← HV.out.1]; exact (HL.out.on HB32.out).st.1.kd.1); have e3 : w32.cell? ⟨w.heap.size, 3, none⟩ = some (.int .i64 size) := (by rw [← HV.out.2.2.2.1]; exact (HL.out.on HB32.out).st.1.kd.2.2.2.1); have e6 : w32.cell? ⟨w.heap.size, 6, none⟩ = some (.slice Ad nd cd) := (by rw [← HV2.out.2.1]; exact (HL.out.on HB32.out).st.1.kdv.2.1); have s5 : w32.cell? ⟨b5, 5, none⟩ = some (.slice A2 q c2) := (HL.out.on HB32.out).bx.cell 5; have y0 : w32.cell? ⟨b20, 0, none⟩ = some (.int .i64 2) := HX32.out.cell 0; have y1 : w32.cell? ⟨b20, 1, none⟩ = some (.int .i64 (j : Int)) := HX32.out.cell 1; clear HX31)
                          | ((with_reducible refine wpList_box_int (o := ⟨none, .store _ _ _, _, _, _, _⟩) rfl _ _ _ rfl b20 0 _ _ 3 _ rfl rfl HX32.out (zcs0 _ _) size_i64 ?_); intro w33 hw33; have HX33 := Lib.hid (show Box w33 b20 53 (zcs (3, (j : Int))) from (by rw [hw33]; exact HX32.out.set 0 _)); have HB33 := Lib.hid (show Below _ _ w33 from (by rw [hw33]; exact below_stored HB32.out (grown_setCell _ ⟨b20, 0, none⟩ _) HB32.out.size (by rw [HB20.out]; exact Nat.le_refl _))); clear hw33 e0 e3 e6 s5 y0 y1; have e0 : w33.cell? ⟨w.heap.size, 0, none⟩ = some (.int .i64 conv) := (by rw [← HV.out.1]; exact (HL.out.on HB33.out).st.1.kd.1); have e3 : w33.cell? ⟨w.heap.size, 3, none⟩ = some (.int .i64 size) := (by rw [← HV.out.2.2.2.1]; exact (HL.out.on HB33.out).st.1.kd.2.2.2.1); have e6 : w33.cell? ⟨w.heap.size, 6, none⟩ = some (.slice Ad nd cd) := (by rw [← HV2.out.2.1]; exact (HL.out.on HB33.out).st.1.kdv.2.1); have s5 : w33.cell? ⟨b5, 5, none⟩ = some (.slice A2 q c2) := (HL.out.on HB33.out).bx.cell 5; have y0 : w33.cell? ⟨b20, 0, none⟩ = some (.int .i64 3) := HX33.out.cell 0; have y1 : w33.cell? ⟨b20, 1, none⟩ = some (.int .i64 (j : Int)) := HX33.out.cell 1; clear HX32)
                          | (go_at_call 58; refine (HHas.out _ HB32.out).mono ?_; rintro e w' ⟨rfl, rfl⟩)
                          | (at_builtin; go_loud (refine wpList_append_new _ rfl _ _ _ rfl (w.heap.size + 3) 53 _ 2 16 elemZ (.slice A2 q c2) q _ rfl (zcs (3, (j : Int))) rfl (HL.out.on HB33.out).ownz rfl (fun u hu => zc_one (L := [(3, (j : Int))]) hu) (by simp only [maxLen]; omega) (by omega) (HL.out.on HB33.out).st.2.2.2.2 ?_); intro v1 w41 hown41 hg41; obtain ⟨A3, c3, rfl⟩ := own_slice hown41; have x41 := (HL.out.on HB33.out).five hg41; have HO41 := Lib.hid (And.intro hown41 hg41); clear hown41 hg41 e0 e3 e6 s5 y0 y1)
                          | ((with_reducible refine wpList_box_slice (o := ⟨none, .store _ _ _, _, _, _, _⟩) rfl _ _ _ rfl b5 5 _ _ A3 _ c3 _ rfl rfl x41 rfl size_rzones ?_); intro w42 hw42)
                          | fail)
                        go_roundw
                        case rel =>
                          refine ⟨q + 1, A3, c3, by omega, by go_num, ?_⟩
                          rw [HTK.out, HVAL.out]
                          exact (HL.out.on HB33.out).more HO41.out.2 HO41.out.1
                        case measure => first | (simp [intOf]; done) | (simp [intOf]; omega)
                    | false =>
                      rw [hhas] at HHas HV0 HTK
                      clear hhas
                      have hj1 : ((j : Int) == 0) = false := by have := HJE.out; simp; omega
                      have hns0 : (j : Int) = size := by have := HJE.out; omega
                      have hns : ((j : Int) == size) = true := by simp [hns0]
                      have HVAL := Lib.hid (HV0.out.trans (show shutZ false size (j : Int) = (3, (j : Int)) from by unfold shutZ; rw [if_pos (.inr hns0)]))
                      clear HV0 hns0
                      as_aux_lemma =>
                        have e0 : w8.cell? ⟨w.heap.size, 0, none⟩ = some (.int .i64 conv) := (by rw [← HV.out.1]; exact (HL.out.on HB8.out).st.1.kd.1)
                        have e3 : w8.cell? ⟨w.heap.size, 3, none⟩ = some (.int .i64 size) := (by rw [← HV.out.2.2.2.1]; exact (HL.out.on HB8.out).st.1.kd.2.2.2.1)
                        have e6 : w8.cell? ⟨w.heap.size, 6, none⟩ = some (.slice Ad nd cd) := (by rw [← HV2.out.2.1]; exact (HL.out.on HB8.out).st.1.kdv.2.1)
                        have s5 : w8.cell? ⟨b5, 5, none⟩ = some (.slice A2 q c2) := (HL.out.on HB8.out).bx.cell 5
                        have y0 : w8.cell? ⟨b20, 0, none⟩ = some (.int .i64 xs) := HX8.out.cell 0
                        have y1 : w8.cell? ⟨b20, 1, none⟩ = some (.int .i64 xp) := HX8.out.cell 1
                        go_wp2_with (first
                          | ((with_reducible refine wpList_box_int (o := ⟨none, .store _ _ _, _, _, _, _⟩) rfl _ _ _ rfl b20 1 _ _ (j : Int) _ rfl rfl HX8.out (zcs1 _ _) size_i64 ?_); intro w31 hw31; have HX31 := Lib.hid (show Box w31 b20 53 (zcs (xs, (j : Int))) from (by rw [hw31]; exact HX8.out.set 1 _)); have HB31 := Lib.hid (show Below _ _ w31 from (by rw [hw31]; exact below_stored HB8.out (grown_setCell _ ⟨b20, 1, none⟩ _) HB8.out.size (by rw [HB20.out]; exact Nat.le_refl _))); clear hw31 e0 e3 e6 s5 y0 y1; have e0 : w31.cell? ⟨w.heap.size, 0, none⟩ = some (.int .i64 conv) := (by rw [← HV.out.1]; exact (HL.out.on HB31.out).st.1.kd.1); have e3 : w31.cell? ⟨w.heap.size, 3, none⟩ = some (.int .i64 size) := (by rw [← HV.out.2.2.2.1]; exact (HL.out.on HB31.out).st.1.kd.2.2.2.1); have e6 : w31.cell? ⟨w.heap.size, 6, none⟩ = some (.slice Ad nd cd) := (by rw [← HV2.out.2.1]; exact (HL.out.on HB31.out).st.1.kdv.2.1); have s5 : w31.cell? ⟨b5, 5, none⟩ = some (.slice A2 q c2) := (HL.out.on HB31.out).bx.cell 5; have y0 : w31.cell? ⟨b20, 0, none⟩ = some (.int .i64 xs) := HX31.out.cell 0; have y1 : w31.cell? ⟨b20, 1, none⟩ = some (.int .i64 (j : Int)) := HX31.out.cell 1; clear HX8)
                          | ((with_reducible refine wpList_box_int (o := ⟨none, .store _ _ _, _, _, _, _⟩) rfl _ _ _ rfl b20 0 _ _ 2 _ rfl rfl HX31.out (zcs0 _ _) size_i64 ?_); intro w32 hw32; have HX32 := Lib.hid (show Box w32 b20 53 (zcs (2, (j : Int))) from (by rw [hw32]; exact HX31.out.set 0 _)); have HB32 := Lib.hid (show Below _ _ w32 from (by rw [hw32]; exact below_stored HB31.out (grown_setCell _ ⟨b20, 0, none⟩ _) HB31.out.size (by rw [HB20.out]; exact Nat.le_refl _))); clear hw32 e0 e3 e6 s5 y0 y1; have e0 : w32.cell? ⟨w.heap.size, 0, none⟩ = some (.int .i64 conv) := (by rw [← HV.out.1]; exact (HL.out.on HB32.out).st.1.kd.1); have e3 : w32.cell? ⟨w.heap.size, 3, none⟩ = some (.int .i64 size) := (by rw [← HV.out.2.2.2.1]; exact (HL.out.on HB32.out).st.1.kd.2.2.2.1); have e6 : w32.cell? ⟨w.heap.size, 6, none⟩ = some (.slice Ad nd cd) := (by rw [← HV2.out.2.1]; exact (HL.out.on HB32.out).st.1.kdv.2.1); have s5 : w32.cell? ⟨b5, 5, none⟩ = some (.slice A2 q c2) := (HL.out.on HB32.out).bx.cell 5; have y0 : w32.cell? ⟨b20, 0, none⟩ = some (.int .i64 2) := HX32.out.cell 0; have y1 : w32.cell? ⟨b20, 1, none⟩ = some (.int .i64 (j : Int)) := HX32.out.cell 1; clear HX31)
                          | ((with_reducible refine wpList_box_int (o := ⟨none, .store _ _ _, _, _, _, _⟩) rfl _ _ _ rfl b20 0 _ _ 3 _ rfl rfl HX32.out (zcs0 _ _) size_i64 ?_); intro w33 hw33; have HX33 := Lib.hid (show Box w33 b20 53 (zcs (3, (j : Int))) from (by rw [hw33]; exact HX32.out.set 0 _)); have HB33 := Lib.hid (show Below _ _ w33 from (by rw [hw33]; exact below_stored HB32.out (grown_setCell _ ⟨b20, 0, none⟩ _) HB32.out.size (by rw [HB20.out]; exact Nat.le_refl _))); clear hw33 e0 e3 e6 s5 y0 y1; have e0 : w33.cell? ⟨w.heap.size, 0, none⟩ = some (.int .i64 conv) := (by rw [← HV.out.1]; exact (HL.out.on HB33.out).st.1.kd.1); have e3 : w33.cell? ⟨w.heap.size, 3, none⟩ = some (.int .i64 size) := (by rw [← HV.out.2.2.2.1]; exact (HL.out.on HB33.out).st.1.kd.2.2.2.1); have e6 : w33.cell? ⟨w.heap.size, 6, none⟩ = some (.slice Ad nd cd) := (by rw [← HV2.out.2.1]; exact (HL.out.on HB33.out).st.1.kdv.2.1); have s5 : w33.cell? ⟨b5, 5, none⟩ = some (.slice A2 q c2) := (HL.out.on HB33.out).bx.cell 5; have y0 : w33.cell? ⟨b20, 0, none⟩ = some (.int .i64 3) := HX33.out.cell 0; have y1 : w33.cell? ⟨b20, 1, none⟩ = some (.int .i64 (j : Int)) := HX33.out.cell 1; clear HX32)
                          | (go_at_call 58; refine (HHas.out _ HB32.out).mono ?_; rintro e w' ⟨rfl, rfl⟩)
                          | (at_builtin; go_loud (refine wpList_append_new _ rfl _ _ _ rfl (w.heap.size + 3) 53 _ 2 16 elemZ (.slice A2 q c2) q _ rfl (zcs (3, (j : Int))) rfl (HL.out.on HB33.out).ownz rfl (fun u hu => zc_one (L := [(3, (j : Int))]) hu) (by simp only [maxLen]; omega) (by omega) (HL.out.on HB33.out).st.2.2.2.2 ?_); intro v1 w41 hown41 hg41; obtain ⟨A3, c3, rfl⟩ := own_slice hown41; have x41 := (HL.out.on HB33.out).five hg41; have HO41 := Lib.hid (And.intro hown41 hg41); clear hown41 hg41 e0 e3 e6 s5 y0 y1)
                          | ((with_reducible refine wpList_box_slice (o := ⟨none, .store _ _ _, _, _, _, _⟩) rfl _ _ _ rfl b5 5 _ _ A3 _ c3 _ rfl rfl x41 rfl size_rzones ?_); intro w42 hw42)
                          | fail)
                        go_roundw
                        case rel =>
                          refine ⟨q + 1, A3, c3, by omega, by go_num, ?_⟩
                          rw [HTK.out, HVAL.out]
                          exact (HL.out.on HB33.out).more HO41.out.2 HO41.out.1
                        case measure => first | (simp [intOf]; done) | (simp [intOf]; omega)
            · obtain rfl : q = nz := by omega
              have hl : (crL conv size S d).take q = crL conv size S d := List.take_of_length_le (by rw [crL_length, HN.out.1]; exact Nat.le_refl _)
              rw [hl] at hL
              obtain ⟨mk, hmk, hszk⟩ := big_size (P := Try.prog) (t := 36) (s := 13) (by kernel_rfl)
              have hmk0 : ¬ mk = 0 := by omega
              have HMK := Lib.hid hmk
              clear hmk
              have hld := big_load0 Try.prog b5 0 (kcs (zK conv soft seq size opn (.slice Ad nd cd) (.slice A n c) v.ill (.slice A2 q c2))) mk (by rw [HMK.out]; rfl) _ hL.bx.range0
              have hkok : KOk (zK conv soft seq size opn (.slice Ad nd cd) (.slice A n c) v.ill (.slice A2 q c2)) := ⟨rfl, rfl, rfl, rfl⟩
              have HL := Lib.hid hL
              have HX := Lib.hid hL.st.2.2.1
              clear hl hL hlt
              as_aux_lemma =>
                go_wp2_with (first
                  | ((refine wpList_kd_store (o := ⟨none, .store _ _ _, _, _, _, _⟩) rfl _ _ rfl (w.heap.size + 1 + 1) (zK conv soft seq size opn (.slice Ad nd cd) (.slice A n c) v.ill (.slice A2 q c2)) kd0 hkok rfl rfl HX.out ?_); intro w9 hb9 hg9 hs9; clear hs9)
                  | fail)
                have hldF := big_load0 Try.prog (w.heap.size + 1 + 1) 0 (kcs (zK conv soft seq size opn (.slice Ad nd cd) (.slice A n c) v.ill (.slice A2 q c2))) mk (by rw [HMK.out]; rfl) _ hb9.range0
                have HE := Lib.hid (HL.out.done hg9)
                generalize hR : kcs _ = R at hldF ⊢
                refine bodyPost_ret (v := .agg R.toArray) (by simp [results, Try.results27, go_sem, hszk, hldF]) rfl ⟨zK conv soft seq size opn (.slice Ad nd cd) (.slice A n c) v.ill (.slice A2 q c2), by rw [hR], ?_, HE.out.2.2⟩
                rw [HCE.out]
                exact ⟨⟨rfl, rfl, rfl, rfl, rfl⟩, ⟨A2, q, c2, rfl, by show (crL conv size S d).length = q; rw [crL_length]; exact HN.out.1, HN.out.2.1, RdQ.own HE.out.2.1 fun k h => .inr (by omega)⟩,
                  ⟨Ad, nd, cd, rfl, HN.out.2.2.1, by have := HN.out.2.2.2.1; omega, HQ.out.2.2.2.1.kept (fun k _ h => .inl h) HE.out.2.2.size fun k hk _ => HE.out.2.2.block k hk⟩,
                  ⟨A, n, c, rfl, HL.out.len, HSK.out.1, RowQ.own HE.out.1 fun k h => .inr (by omega)⟩, ⟨none, 0, 0, rfl, rfl, fun c h => by simp at h, RowQ.empty⟩,
                  by have h1 := HSK.out.2; have h2 := HQ.out.2.2.2.2.1; show S.length + 0 ≤ N + 1; omega,
                  rfl, rfl, rfl, HQ.out.2.2.2.2.2.2.2.2.1, HQ.out.2.2.2.2.2.2.2.2.2.1, by have := HQ.out.2.2.2.2.2.2.2.2.2.2; dsimp only; omega⟩
end Go.Proofs.Ytkdhibjmfanhcaa

/-
  Package pool: are the heads right; is a pool right; the room of a head.
-/
import Derived.Test.YtnpnnejopibjcaaPoB
namespace Go.Proofs.Ytnpnnejopibjcaa
open Go.RowKit Geom Leaf Pol
set_option linter.unusedVariables false

/-- a point of the points -/
theorem Rd.point {w : World} {B k : Nat} {A : Option Addr} {ps : List Int} (h : Rd w B A (is ps)) (hk : k < ps.length) :
    ∃ ad, A = some ad ∧ ad.block < B ∧ w.cell? (ad.add k) = some (.int .i64 (ps.getD k 0)) := h.at (is_get hk)
theorem idx3_0 (h0 h1 h2 : Int) (w : World) : (Instr.index 29 (.agg #[.int .i64 h0, .int .i64 h1, .int .i64 h2]) (.int .i64 0)).run Try.prog w = .ok (.int .i64 h0) w :=
  run_index_is w 29 3 3 [h0, h1, h2] 0 Try.underlying29 Try.underlying3 size_int rfl (by omega)
theorem idx3_1 (h0 h1 h2 : Int) (w : World) : (Instr.index 29 (.agg #[.int .i64 h0, .int .i64 h1, .int .i64 h2]) (.int .i64 1)).run Try.prog w = .ok (.int .i64 h1) w :=
  run_index_is w 29 3 3 [h0, h1, h2] 1 Try.underlying29 Try.underlying3 size_int rfl (by omega)
theorem idx3_2 (h0 h1 h2 : Int) (w : World) : (Instr.index 29 (.agg #[.int .i64 h0, .int .i64 h1, .int .i64 h2]) (.int .i64 2)).run Try.prog w = .ok (.int .i64 h2) w :=
  run_index_is w 29 3 3 [h0, h1, h2] 2 Try.underlying29 Try.underlying3 size_int rfl (by omega)
theorem scontains_q (A : Option Addr) (n cap : Nat) (xs : List Int) (z : Int) (w : World) (hm : n ≤ maxLen) (hn : xs.length = n) (B : Nat) (hr : Rd w B A (is xs)) :
    Calls Try.prog 42 #[.slice A n cap, .int .i64 z] w fun e w' => e = .returned (.bool (hasZ xs z)) ∧ w' = w :=
  (scontains_any A n cap xs z w hm hn B hr).mono fun _ _ h => ⟨h.1, h.2.symm⟩
theorem head_zero {conv size : Int} {ps : List Int} {z : Int} {b : List Int} (h : z = 0) : headB conv size ps z b = true := by simp [headB, h]
theorem head_out {conv size : Int} {ps : List Int} {z : Int} {b : List Int} (h : z ≠ 0) (h' : ¬ (conv ≤ z ∧ z < conv + ps.length)) : headB conv size ps z b = false := by
  simp only [headB, roomB]
  simp [h]
  intro h1 h2
  exact absurd ⟨h1, h2⟩ h'
theorem head_in {conv size : Int} {ps : List Int} {z : Int} {b : List Int} {j : Nat} (h : z ≠ 0) (hj : j < ps.length) (hz : z = conv + j) : headB conv size ps z b = (decide (ps.getD j 0 < size) && !hasZ b z) := by
  have e : (z - conv).toNat = j := by omega
  have h1 : conv ≤ z := by omega
  have h2 : z < conv + ps.length := by omega
  simp [headB, roomB, h, e, h1, h2]
theorem heads_no0 {conv size h0 h1 h2 : Int} {ps : List Int} (h : headB conv size ps h0 [] = false) : headsB conv size ps h0 h1 h2 = false := by simp [headsB, h]
theorem heads_no1 {conv size h0 h1 h2 : Int} {ps : List Int} (h : headB conv size ps h1 [h0] = false) : headsB conv size ps h0 h1 h2 = false := by simp [headsB, h]
theorem heads_no2 {conv size h0 h1 h2 : Int} {ps : List Int} (h : headB conv size ps h2 [h0, h1] = false) : headsB conv size ps h0 h1 h2 = false := by simp [headsB, h]

set_option maxRecDepth 100000 in
set_option maxHeartbeats 4000000 in
theorem prightheads_any (conv soft seq size opn : Int) (A : Option Addr) (n cap : Nat) (ps : List Int) (h0 h1 h2 : Int) (w : World) (hm : n ≤ 64) (hn : ps.length = n) (k0 : 2 ≤ conv) (z0 : h0 < 9223372036854775808) (z1 : h1 < 9223372036854775808) (z2 : h2 < 9223372036854775808)
    (hr : Rd w w.heap.size A (is ps)) :
    Calls Try.prog 31 #[pgv conv soft seq size opn, ppv A n cap h0 h1 h2] w fun e w' => e = .returned (.bool (headsB conv size ps h0 h1 h2)) ∧ Below w.heap.size w w' := by
  have H0 := Lib.hid (GP.new w conv soft seq size opn A n cap h0 h1 h2 23 31)
  have HN := Lib.hid hn
  have HR := Lib.hid hr
  have Z0 := Lib.hid z0
  have Z1 := Lib.hid z1
  have Z2 := Lib.hid z2
  have K0 := Lib.hid k0
  clear hn hr z0 z1 z2 k0
  generalize hres : headsB conv size ps h0 h1 h2 = res
  have HRes := Lib.hid hres
  clear hres
  go_enter Try.func31, Try.ntmps31
  go_wp2_with fail
  generalize World.alloc _ _ = w0 at H0 ⊢
  obtain ⟨a0, a1, a2, a3, al⟩ := id H0.out.2.1
  go_wp2
  clear a0 a1 a2 a3 al
  go_loopw [11] (fun i wr => ∃ k : Nat, k ≤ 3 ∧ i = .int .i64 k ∧ GP w wr conv soft seq size opn A n cap h0 h1 h2 ∧ (1 ≤ k → headB conv size ps h0 [] = true) ∧ (2 ≤ k → headB conv size ps h1 [h0] = true) ∧ (3 ≤ k → headB conv size ps h2 [h0, h1] = true)) (fun i _ => 3 - (intOf i).toNat)
  case atStart => exact ⟨0, by omega, rfl, H0.out, fun h => absurd h (by omega), fun h => absurd h (by omega), fun h => absurd h (by omega)⟩
  case round =>
    obtain ⟨k, hk, rfl, hw1, t1, t2, t3⟩ := hrel
    have H1 := Lib.hid hw1
    have T1 := Lib.hid t1
    have T2 := Lib.hid t2
    have T3 := Lib.hid t3
    clear hw1 t1 t2 t3 H0
    obtain ⟨c0, c1, c2, c3, c4, cl⟩ := id H1.out.1
    obtain ⟨a0, a1, a2, a3, al⟩ := id H1.out.2.1
    obtain rfl | rfl | rfl | rfl : k = 0 ∨ k = 1 ∨ k = 2 ∨ k = 3 := by omega
    · have qI := idx3_0 h0 h1 h2 wr
      by_cases hz : h0 = 0
      · have HE := Lib.hid (head_zero (conv := conv) (size := size) (ps := ps) (b := []) hz)
        have hq : (h0 == 0) = true := by simpa using hz
        clear hz
        go_wp2
        go_roundw
        case rel => exact ⟨1, by omega, by go_num, H1.out, fun _ => HE.out, fun h => absurd h (by omega), fun h => absurd h (by omega)⟩
        case measure => simp [intOf]
      have hq : (h0 == 0) = false := by simpa using hz
      have HI := Lib.hid (pindex_any conv soft seq size opn h0 A n cap h0 h1 h2 wr hm K0.out Z0.out)
      have HZ := Lib.hid hz
      clear hz
      by_cases hin : conv ≤ h0 ∧ h0 < conv + n
      rotate_left
      · rw [(ix_no hin).1, (ix_no hin).2] at HI
        have HE := Lib.hid (heads_no0 (h0 := h0) (h1 := h1) (h2 := h2) (head_out (size := size) (b := []) HZ.out (by rw [HN.out]; exact hin)))
        clear hin
        go_wp2_with fail
        refine HI.out.mono ?_
        rintro e w2 ⟨rfl, hb⟩
        have H2 := Lib.hid (GP.below H1.out hb)
        clear c0 c1 c2 c3 c4 cl a0 a1 a2 a3 al hb
        go_wp2
        go_quiet (fail)
        have hb4 := below_draws H2.out.2.2 nq
        generalize w2.drewN nq = w4 at hb4 ⊢
        go_wp2
        go_ret
        exact ⟨ret_bool (HRes.out.symm.trans HE.out), hb4⟩
      obtain ⟨j, hj, hzj, hv, hb⟩ := ix_nat hin
      rw [hv, hb] at HI
      have HE := Lib.hid (head_in (size := size) (b := []) HZ.out (by rw [HN.out]; exact hj) hzj)
      clear hin hzj hv hb
      go_wp2_with fail
      refine HI.out.mono ?_
      rintro e w2 ⟨rfl, hb⟩
      have H2 := Lib.hid (GP.below H1.out hb)
      clear c0 c1 c2 c3 c4 cl a0 a1 a2 a3 al hb
      obtain ⟨c0, c1, c2, c3, c4, cl⟩ := id H2.out.1
      obtain ⟨a0, a1, a2, a3, al⟩ := id H2.out.2.1
      obtain ⟨ad, rfl, _, pc⟩ := (Rd.gp HR.out H2.out).point (k := j) (by rw [HN.out]; exact hj)
      have hjI : (j : Int) < (n : Int) := by omega
      generalize ps.getD j 0 = x at HE pc
      by_cases hxs : x < size
      rotate_left
      · have hd : decide (size ≤ x) = true := decide_eq_true (by omega)
        have HE2 := Lib.hid (HE.out.trans (show _ = false by simp [hxs]))
        clear hxs HE
        go_wp2
        go_quiet (fail)
        have hb4 := below_draws H2.out.2.2 nq
        generalize w2.drewN nq = w4 at hb4 ⊢
        go_wp2
        go_ret
        exact ⟨ret_bool (HRes.out.symm.trans (heads_no0 HE2.out)), hb4⟩
      have hd : decide (size ≤ x) = false := decide_eq_false (by omega)
      have HE2 := Lib.hid (HE.out.trans (show _ = !hasZ [] h0 by simp [hxs]))
      clear hxs HE
      have HC := Lib.hid fun q => scontains_q (some ⟨w.heap.size + 1, 1, none⟩) 0 3 [] h0 (w2.drewN q) (by simp [maxLen]) rfl _ (Rd.drewN (w := w2) (by simpa [is] using (LiesP.heads H2.out.2.1).front (k := 0)) q)
      go_wp2
      cases hh : hasZ [] h0
      · rw [hh] at HC HE2
        go_quiet ((go_at_call 42; exact Calls.quiet_of_same (HC.out _)))
        have H4 := Lib.hid (GP.drewN H2.out nq)
        generalize w2.drewN nq = w4 at H4 ⊢
        go_wp2
        go_roundw
        case rel => exact ⟨1, by omega, by go_num, H4.out, fun _ => HE2.out, fun h => absurd h (by omega), fun h => absurd h (by omega)⟩
        case measure => simp [intOf]
      · rw [hh] at HC HE2
        go_quiet ((go_at_call 42; exact Calls.quiet_of_same (HC.out _)))
        have hb4 := below_draws H2.out.2.2 nq
        generalize w2.drewN nq = w4 at hb4 ⊢
        go_wp2
        go_ret
        exact ⟨ret_bool (HRes.out.symm.trans (heads_no0 HE2.out)), hb4⟩
    · have qI := idx3_1 h0 h1 h2 wr
      by_cases hz : h1 = 0
      · have HE := Lib.hid (head_zero (conv := conv) (size := size) (ps := ps) (b := [h0]) hz)
        have hq : (h1 == 0) = true := by simpa using hz
        clear hz
        go_wp2
        go_roundw
        case rel => exact ⟨2, by omega, by go_num, H1.out, fun _ => T1.out (by omega), fun _ => HE.out, fun h => absurd h (by omega)⟩
        case measure => simp [intOf]
      have hq : (h1 == 0) = false := by simpa using hz
      have HI := Lib.hid (pindex_any conv soft seq size opn h1 A n cap h0 h1 h2 wr hm K0.out Z1.out)
      have HZ := Lib.hid hz
      clear hz
      by_cases hin : conv ≤ h1 ∧ h1 < conv + n
      rotate_left
      · rw [(ix_no hin).1, (ix_no hin).2] at HI
        have HE := Lib.hid (heads_no1 (h0 := h0) (h1 := h1) (h2 := h2) (head_out (size := size) (b := [h0]) HZ.out (by rw [HN.out]; exact hin)))
        clear hin
        go_wp2_with fail
        refine HI.out.mono ?_
        rintro e w2 ⟨rfl, hb⟩
        have H2 := Lib.hid (GP.below H1.out hb)
        clear c0 c1 c2 c3 c4 cl a0 a1 a2 a3 al hb
        go_wp2
        go_quiet (fail)
        have hb4 := below_draws H2.out.2.2 nq
        generalize w2.drewN nq = w4 at hb4 ⊢
        go_wp2
        go_ret
        exact ⟨ret_bool (HRes.out.symm.trans HE.out), hb4⟩
      obtain ⟨j, hj, hzj, hv, hb⟩ := ix_nat hin
      rw [hv, hb] at HI
      have HE := Lib.hid (head_in (size := size) (b := [h0]) HZ.out (by rw [HN.out]; exact hj) hzj)
      clear hin hzj hv hb
      go_wp2_with fail
      refine HI.out.mono ?_
      rintro e w2 ⟨rfl, hb⟩
      have H2 := Lib.hid (GP.below H1.out hb)
      clear c0 c1 c2 c3 c4 cl a0 a1 a2 a3 al hb
      obtain ⟨c0, c1, c2, c3, c4, cl⟩ := id H2.out.1
      obtain ⟨a0, a1, a2, a3, al⟩ := id H2.out.2.1
      obtain ⟨ad, rfl, _, pc⟩ := (Rd.gp HR.out H2.out).point (k := j) (by rw [HN.out]; exact hj)
      have hjI : (j : Int) < (n : Int) := by omega
      generalize ps.getD j 0 = x at HE pc
      by_cases hxs : x < size
      rotate_left
      · have hd : decide (size ≤ x) = true := decide_eq_true (by omega)
        have HE2 := Lib.hid (HE.out.trans (show _ = false by simp [hxs]))
        clear hxs HE
        go_wp2
        go_quiet (fail)
        have hb4 := below_draws H2.out.2.2 nq
        generalize w2.drewN nq = w4 at hb4 ⊢
        go_wp2
        go_ret
        exact ⟨ret_bool (HRes.out.symm.trans (heads_no1 HE2.out)), hb4⟩
      have hd : decide (size ≤ x) = false := decide_eq_false (by omega)
      have HE2 := Lib.hid (HE.out.trans (show _ = !hasZ [h0] h1 by simp [hxs]))
      clear hxs HE
      have HC := Lib.hid fun q => scontains_q (some ⟨w.heap.size + 1, 1, none⟩) 1 3 [h0] h1 (w2.drewN q) (by simp [maxLen]) rfl _ (Rd.drewN (w := w2) (by simpa [is] using (LiesP.heads H2.out.2.1).front (k := 1)) q)
      go_wp2
      cases hh : hasZ [h0] h1
      · rw [hh] at HC HE2
        go_quiet ((go_at_call 42; exact Calls.quiet_of_same (HC.out _)))
        have H4 := Lib.hid (GP.drewN H2.out nq)
        generalize w2.drewN nq = w4 at H4 ⊢
        go_wp2
        go_roundw
        case rel => exact ⟨2, by omega, by go_num, H4.out, fun _ => T1.out (by omega), fun _ => HE2.out, fun h => absurd h (by omega)⟩
        case measure => simp [intOf]
      · rw [hh] at HC HE2
        go_quiet ((go_at_call 42; exact Calls.quiet_of_same (HC.out _)))
        have hb4 := below_draws H2.out.2.2 nq
        generalize w2.drewN nq = w4 at hb4 ⊢
        go_wp2
        go_ret
        exact ⟨ret_bool (HRes.out.symm.trans (heads_no1 HE2.out)), hb4⟩
    · have qI := idx3_2 h0 h1 h2 wr
      by_cases hz : h2 = 0
      · have HE := Lib.hid (head_zero (conv := conv) (size := size) (ps := ps) (b := [h0, h1]) hz)
        have hq : (h2 == 0) = true := by simpa using hz
        clear hz
        go_wp2
        go_roundw
        case rel => exact ⟨3, by omega, by go_num, H1.out, fun _ => T1.out (by omega), fun _ => T2.out (by omega), fun _ => HE.out⟩
        case measure => simp [intOf]
      have hq : (h2 == 0) = false := by simpa using hz
      have HI := Lib.hid (pindex_any conv soft seq size opn h2 A n cap h0 h1 h2 wr hm K0.out Z2.out)
      have HZ := Lib.hid hz
      clear hz
      by_cases hin : conv ≤ h2 ∧ h2 < conv + n
      rotate_left
      · rw [(ix_no hin).1, (ix_no hin).2] at HI
        have HE := Lib.hid (heads_no2 (h0 := h0) (h1 := h1) (h2 := h2) (head_out (size := size) (b := [h0, h1]) HZ.out (by rw [HN.out]; exact hin)))
        clear hin
        go_wp2_with fail
        refine HI.out.mono ?_
        rintro e w2 ⟨rfl, hb⟩
        have H2 := Lib.hid (GP.below H1.out hb)
        clear c0 c1 c2 c3 c4 cl a0 a1 a2 a3 al hb
        go_wp2
        go_quiet (fail)
        have hb4 := below_draws H2.out.2.2 nq
        generalize w2.drewN nq = w4 at hb4 ⊢
        go_wp2
        go_ret
        exact ⟨ret_bool (HRes.out.symm.trans HE.out), hb4⟩
      obtain ⟨j, hj, hzj, hv, hb⟩ := ix_nat hin
      rw [hv, hb] at HI
      have HE := Lib.hid (head_in (size := size) (b := [h0, h1]) HZ.out (by rw [HN.out]; exact hj) hzj)
      clear hin hzj hv hb
      go_wp2_with fail
      refine HI.out.mono ?_
      rintro e w2 ⟨rfl, hb⟩
      have H2 := Lib.hid (GP.below H1.out hb)
      clear c0 c1 c2 c3 c4 cl a0 a1 a2 a3 al hb
      obtain ⟨c0, c1, c2, c3, c4, cl⟩ := id H2.out.1
      obtain ⟨a0, a1, a2, a3, al⟩ := id H2.out.2.1
      obtain ⟨ad, rfl, _, pc⟩ := (Rd.gp HR.out H2.out).point (k := j) (by rw [HN.out]; exact hj)
      have hjI : (j : Int) < (n : Int) := by omega
      generalize ps.getD j 0 = x at HE pc
      by_cases hxs : x < size
      rotate_left
      · have hd : decide (size ≤ x) = true := decide_eq_true (by omega)
        have HE2 := Lib.hid (HE.out.trans (show _ = false by simp [hxs]))
        clear hxs HE
        go_wp2
        go_quiet (fail)
        have hb4 := below_draws H2.out.2.2 nq
        generalize w2.drewN nq = w4 at hb4 ⊢
        go_wp2
        go_ret
        exact ⟨ret_bool (HRes.out.symm.trans (heads_no2 HE2.out)), hb4⟩
      have hd : decide (size ≤ x) = false := decide_eq_false (by omega)
      have HE2 := Lib.hid (HE.out.trans (show _ = !hasZ [h0, h1] h2 by simp [hxs]))
      clear hxs HE
      have HC := Lib.hid fun q => scontains_q (some ⟨w.heap.size + 1, 1, none⟩) 2 3 [h0, h1] h2 (w2.drewN q) (by simp [maxLen]) rfl _ (Rd.drewN (w := w2) (by simpa [is] using (LiesP.heads H2.out.2.1).front (k := 2)) q)
      go_wp2
      cases hh : hasZ [h0, h1] h2
      · rw [hh] at HC HE2
        go_quiet ((go_at_call 42; exact Calls.quiet_of_same (HC.out _)))
        have H4 := Lib.hid (GP.drewN H2.out nq)
        generalize w2.drewN nq = w4 at H4 ⊢
        go_wp2
        go_roundw
        case rel => exact ⟨3, by omega, by go_num, H4.out, fun _ => T1.out (by omega), fun _ => T2.out (by omega), fun _ => HE2.out⟩
        case measure => simp [intOf]
      · rw [hh] at HC HE2
        go_quiet ((go_at_call 42; exact Calls.quiet_of_same (HC.out _)))
        have hb4 := below_draws H2.out.2.2 nq
        generalize w2.drewN nq = w4 at hb4 ⊢
        go_wp2
        go_ret
        exact ⟨ret_bool (HRes.out.symm.trans (heads_no2 HE2.out)), hb4⟩
    · have HE := Lib.hid (show headsB conv size ps h0 h1 h2 = true by simp [headsB, T1.out (by omega), T2.out (by omega), T3.out (by omega)])
      go_wp2
      go_ret
      exact ⟨ret_bool (HRes.out.symm.trans HE.out), H1.out.2.2⟩

theorem pt_neg {conv size h0 h1 h2 x : Int} {i : Nat} (h : ¬ 0 ≤ x) : ptB conv size h0 h1 h2 i x = false := by simp [ptB, h]
theorem pt_big {conv size h0 h1 h2 x : Int} {i : Nat} (h : ¬ x ≤ size) : ptB conv size h0 h1 h2 i x = false := by simp [ptB, h]
theorem pt_mid {conv size h0 h1 h2 x : Int} {i : Nat} (h : 0 ≤ x) (h' : x ≤ size) : ptB conv size h0 h1 h2 i x = (!partB size x || isH h0 h1 h2 (conv + i)) := by simp [ptB, h, h']
set_option maxRecDepth 100000 in
set_option maxHeartbeats 4000000 in
theorem pright_any (conv soft seq size opn : Int) (A : Option Addr) (n cap : Nat) (ps : List Int) (h0 h1 h2 : Int) (w : World) (hm : n ≤ maxLen) (hn : ps.length = n) (S : Some conv seq size) (z0 : h0 < 9223372036854775808) (z1 : h1 < 9223372036854775808) (z2 : h2 < 9223372036854775808)
    (hr : Rd w w.heap.size A (is ps)) :
    Calls Try.prog 14 #[pgv conv soft seq size opn, ppv A n cap h0 h1 h2] w fun e w' => e = .returned (.bool (rightB conv seq size ps h0 h1 h2)) ∧ Below w.heap.size w w' := by
  have H0 := Lib.hid (GP.new w conv soft seq size opn A n cap h0 h1 h2 23 31)
  obtain ⟨q1, q2, q3, q4, q5⟩ := S
  unfold maxLen at hm
  generalize hres : rightB conv seq size ps h0 h1 h2 = res
  by_cases hs : (n : Int) = seq
  rotate_left
  · have HRes := Lib.hid (hres.symm.trans (show rightB conv seq size ps h0 h1 h2 = false by simp [rightB, hn, hs]))
    have hd : ((n : Int) != seq) = true := by simpa using hs
    clear hs hres
    go_enter Try.func14, Try.ntmps14
    go_wp2
    go_ret
    exact ⟨ret_bool HRes.out, H0.out.2.2⟩
  have hd : ((n : Int) != seq) = false := by simpa using hs
  have HRes := Lib.hid (hres.symm.trans (show rightB conv seq size ps h0 h1 h2 = (headsB conv size ps h0 h1 h2 && ptsB conv size h0 h1 h2 0 ps) by simp [rightB, hn, hs]))
  have HN := Lib.hid hn
  have HR := Lib.hid hr
  have HRH := Lib.hid fun w' (h : GP w w' conv soft seq size opn A n cap h0 h1 h2) => prightheads_any conv soft seq size opn A n cap ps h0 h1 h2 w' (by omega) hn q1 z0 z1 z2 (hr.gp h)
  have hnI : (n : Int) ≤ 64 := by omega
  have HS := Lib.hid hs
  clear hs hres hn hr z0 z1 z2
  go_enter Try.func14, Try.ntmps14
  go_wp2_with fail
  generalize World.alloc _ _ = w0 at H0 ⊢
  obtain ⟨c0, c1, c2, c3, c4, cl⟩ := id H0.out.1
  obtain ⟨a0, a1, a2, a3, al⟩ := id H0.out.2.1
  have HRH1 := Lib.hid (HRH.out _ H0.out)
  clear HRH
  go_wp2_with fail
  refine HRH1.out.mono ?_
  rintro e w1 ⟨rfl, hb⟩
  have H1 := Lib.hid (GP.below H0.out hb)
  clear H0 HRH1 hb c0 c1 c2 c3 c4 cl a0 a1 a2 a3 al
  cases hh : headsB conv size ps h0 h1 h2
  · have HV := Lib.hid (HRes.out.trans (show _ = false by rw [hh]; rfl))
    go_wp2
    go_ret
    exact ⟨ret_bool HV.out, H1.out.2.2⟩
  have HV := Lib.hid (HRes.out.trans (show _ = ptsB conv size h0 h1 h2 0 (ps.drop 0) by rw [hh]; rfl))
  clear HRes hh
  obtain ⟨a0, a1, a2, a3, al⟩ := id H1.out.2.1
  go_wp2
  clear a0 a1 a2 a3 al
  go_loopw [22] (fun i wr => ∃ k : Nat, k ≤ n ∧ i = .int .i64 k ∧ GP w wr conv soft seq size opn A n cap h0 h1 h2 ∧ res = ptsB conv size h0 h1 h2 k (ps.drop k)) (fun i _ => n - (intOf i).toNat)
  case atStart => exact ⟨0, by omega, rfl, H1.out, HV.out⟩
  case round =>
    obtain ⟨k, hk, rfl, hw1, hv⟩ := hrel
    have H2 := Lib.hid hw1
    have HV2 := Lib.hid hv
    clear hw1 hv H1 HV
    by_cases hlt : k < n
    rotate_left
    · obtain rfl : n = k := by omega
      have HV3 := Lib.hid (HV2.out.trans (show _ = true by rw [← HN.out]; exact pts_end))
      go_wp2
      go_ret
      exact ⟨ret_bool HV3.out, H2.out.2.2⟩
    obtain ⟨ad, rfl, _, pc⟩ := (Rd.gp HR.out H2.out).point (k := k) (by rw [HN.out]; exact hlt)
    have hx : ps[k]? = some (ps.getD k 0) := by simp [HN.out, hlt]
    generalize ps.getD k 0 = x at pc hx
    have HP := Lib.hid (HV2.out.trans (pts_at hx))
    clear HV2 hx
    obtain ⟨c0, c1, c2, c3, c4, cl⟩ := id H2.out.1
    obtain ⟨a0, a1, a2, a3, al⟩ := id H2.out.2.1
    by_cases hx0 : 0 ≤ x
    rotate_left
    · have hd0 : decide (x < 0) = true := decide_eq_true (by omega)
      have HV3 := Lib.hid (HP.out.trans (show _ = false by rw [pt_neg hx0]; rfl))
      clear hx0
      go_wp2
      go_ret
      exact ⟨ret_bool HV3.out, H2.out.2.2⟩
    have hd0 : decide (x < 0) = false := decide_eq_false (by omega)
    by_cases hx1 : x ≤ size
    rotate_left
    · have hd1 : decide (size < x) = true := decide_eq_true (by omega)
      have HV3 := Lib.hid (HP.out.trans (show _ = false by rw [pt_big hx1]; rfl))
      clear hx1 hx0
      go_wp2
      go_ret
      exact ⟨ret_bool HV3.out, H2.out.2.2⟩
    have hd1 : decide (size < x) = false := decide_eq_false (by omega)
    have HP2 := Lib.hid (HP.out.trans (show _ = ((!partB size x || isH h0 h1 h2 (conv + k)) && ptsB conv size h0 h1 h2 (k + 1) (ps.drop (k + 1))) by rw [pt_mid hx0 hx1]))
    have hw := IntWalk.i64_in (conv + (k : Int)) (by omega)
    clear hx0 hx1 HP
    go_wp2_with fail
    refine (ppartly_any conv soft seq size opn x wr).mono ?_
    rintro e w3 ⟨rfl, hb⟩
    have H3 := Lib.hid (GP.below H2.out hb)
    clear c0 c1 c2 c3 c4 cl a0 a1 a2 a3 al hb H2 pc
    cases hpb : partB size x
    · have HV3 := Lib.hid (HP2.out.trans (show _ = ptsB conv size h0 h1 h2 (k + 1) (ps.drop (k + 1)) by rw [hpb]; rfl))
      clear hpb HP2
      go_wp2
      go_roundw
      case rel => exact ⟨k + 1, by omega, by go_num, H3.out, HV3.out⟩
      case measure => simp [intOf]; omega
    obtain ⟨c0, c1, c2, c3, c4, cl⟩ := id H3.out.1
    obtain ⟨a0, a1, a2, a3, al⟩ := id H3.out.2.1
    go_wp2_with fail
    refine (pishead_any (some ad) n cap h0 h1 h2 (conv + k) w3).mono ?_
    rintro e w4 ⟨rfl, hb⟩
    have H4 := Lib.hid (GP.below H3.out hb)
    clear c0 c1 c2 c3 c4 cl a0 a1 a2 a3 al hb H3
    cases hih : isH h0 h1 h2 (conv + k)
    · have HV3 := Lib.hid (HP2.out.trans (show _ = false by rw [hpb, hih]; rfl))
      clear hpb hih HP2
      go_wp2
      go_ret
      exact ⟨ret_bool HV3.out, H4.out.2.2⟩
    have HV3 := Lib.hid (HP2.out.trans (show _ = ptsB conv size h0 h1 h2 (k + 1) (ps.drop (k + 1)) by rw [hpb, hih]; rfl))
    clear hpb hih HP2
    go_wp2
    go_roundw
    case rel => exact ⟨k + 1, by omega, by go_num, H4.out, HV3.out⟩
    case measure => simp [intOf]; omega
end Go.Proofs.Ytnpnnejopibjcaa

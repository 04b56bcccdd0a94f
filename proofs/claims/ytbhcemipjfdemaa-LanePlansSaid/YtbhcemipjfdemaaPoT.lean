/-
  The document's answer for layer 11: Right.
-/
import Derived.Test.YtbhcemipjfdemaaPoS
namespace Go.Proofs.Ytbhcemipjfdemaa
open Go.RowKit Geom Leaf Pol
set_option linter.unusedVariables false

theorem head_low {conv size : Int} {ps : List Int} {z : Int} {b : List Int} (h : z ≠ 0) (h' : z < conv) : headB conv size ps z b = false := head_out h (by omega)
theorem head_high {conv size : Int} {ps : List Int} {z : Int} {b : List Int} (h : z ≠ 0) (h' : conv + ps.length ≤ z) : headB conv size ps z b = false := head_out h (by omega)
theorem has0 (z : Int) : hasZ [] z = false := rfl
theorem has1 (a z : Int) : hasZ [a] z = (z == a) := by rw [Bool.eq_iff_iff]; simp [hasZ]
theorem has2 (a b z : Int) : hasZ [a, b] z = (z == a || z == b) := by rw [Bool.eq_iff_iff]; simp [hasZ]
set_option maxRecDepth 100000 in
set_option maxHeartbeats 8000000 in
theorem rpright_any (conv soft seq size opn : Int) (A : Option Addr) (n cap : Nat) (ps : List Int) (h0 h1 h2 : Int) (w : World) (hm : n ≤ maxLen) (hn : ps.length = n) (S : Some conv seq size)
    (hr : Rd w w.heap.size A (is ps)) :
    Calls Try.prog 41 #[pgv conv soft seq size opn, ppv A n cap h0 h1 h2] w fun e w' => e = .returned (.bool (rightB conv seq size ps h0 h1 h2)) ∧ Below w.heap.size w w' := by
  have H0 := Lib.hid (GP.new w conv soft seq size opn A n cap h0 h1 h2 23 27)
  obtain ⟨q1, q2, q3, q4, q5⟩ := S
  unfold maxLen at hm
  generalize hres : rightB conv seq size ps h0 h1 h2 = res
  by_cases hs : (n : Int) = seq
  rotate_left
  · have HRes := Lib.hid (hres.symm.trans (show rightB conv seq size ps h0 h1 h2 = false by simp [rightB, hn, hs]))
    have hd : ((n : Int) != seq) = true := by simpa using hs
    clear hs hres
    go_enter Try.func41, Try.ntmps41
    go_wp2
    go_ret
    exact ⟨ret_bool HRes.out, H0.out.2.2⟩
  have hd : ((n : Int) != seq) = false := by simpa using hs
  have HRes := Lib.hid (hres.symm.trans (show rightB conv seq size ps h0 h1 h2 = (headsB conv size ps h0 h1 h2 && ptsB conv size h0 h1 h2 0 ps) by simp [rightB, hn, hs]))
  have HN := Lib.hid hn
  have HR := Lib.hid hr
  have hnI : (n : Int) ≤ 64 := by omega
  have HS := Lib.hid hs
  have hw0 := IntWalk.i64_in (conv + seq) (by omega)
  clear hres hn hr
  subst hs
  go_enter Try.func41, Try.ntmps41
  go_wp2_with fail
  generalize World.alloc _ _ = w0 at H0 ⊢
  go_loopw [5] (fun i wr => ∃ k : Nat, k ≤ 3 ∧ i = .int .i64 k ∧ GP w wr conv soft n size opn A n cap h0 h1 h2 ∧ (1 ≤ k → headB conv size ps h0 [] = true) ∧ (2 ≤ k → headB conv size ps h1 [h0] = true) ∧ (3 ≤ k → headB conv size ps h2 [h0, h1] = true)) (fun i _ => 3 - (intOf i).toNat)
  case atStart => exact ⟨0, by omega, rfl, H0.out, fun h => absurd h (by omega), fun h => absurd h (by omega), fun h => absurd h (by omega)⟩
  case round =>
    obtain ⟨k, hk, rfl, hw1, t1, t2, t3⟩ := hrel
    have H1 := Lib.hid hw1
    have T1 := Lib.hid t1
    have T2 := Lib.hid t2
    have T3 := Lib.hid t3
    clear hw1 t1 t2 t3 H0
    obtain ⟨c0, c1, c2, c3, c4, cl⟩ := id H1.out.1
    obtain ⟨a0, a1, a2, a3, al⟩ := id H1.out.2.1
    obtain rfl | rfl | rfl | rfl : k = 0 ∨ k = 1 ∨ k = 2 ∨ k = 3 := by omega
    · by_cases hz : h0 = 0
      · have HE := Lib.hid (head_zero (conv := conv) (size := size) (ps := ps) (b := []) hz)
        have hq : (h0 == 0) = true := by simpa using hz
        clear hz
        go_wp2
        go_roundw
        case rel => exact ⟨1, by omega, by go_num, H1.out, fun _ => HE.out, fun h => absurd h (by omega), fun h => absurd h (by omega)⟩
        case measure => simp [intOf]
      have hq : (h0 == 0) = false := by simpa using hz
      have HZ := Lib.hid hz
      clear hz
      by_cases hlo : h0 < conv
      · have HE := Lib.hid (heads_no0 (h0 := h0) (h1 := h1) (h2 := h2) (head_low (size := size) (ps := ps) (b := []) HZ.out hlo))
        have hd0 : decide (h0 < conv) = true := decide_eq_true hlo
        clear hlo
        go_wp2
        go_quiet (fail)
        have hb4 := below_draws H1.out.2.2 nq
        generalize wr.drewN nq = w4 at hb4 ⊢
        go_wp2
        go_ret
        exact ⟨ret_bool (HRes.out.trans (by rw [HE.out]; rfl)), hb4⟩
      have hd0 : decide (h0 < conv) = false := decide_eq_false hlo
      by_cases hhi : conv + n ≤ h0
      · have HE := Lib.hid (heads_no0 (h0 := h0) (h1 := h1) (h2 := h2) (head_high (size := size) (ps := ps) (b := []) HZ.out (by rw [HN.out]; exact hhi)))
        have hd1 : decide (conv + (n : Int) ≤ h0) = true := decide_eq_true hhi
        clear hlo hhi
        go_wp2
        go_quiet (fail)
        have hb4 := below_draws H1.out.2.2 nq
        generalize wr.drewN nq = w4 at hb4 ⊢
        go_wp2
        go_ret
        exact ⟨ret_bool (HRes.out.trans (by rw [HE.out]; rfl)), hb4⟩
      have hd1 : decide (conv + (n : Int) ≤ h0) = false := decide_eq_false hhi
      obtain ⟨j, hj, hzj, -, -⟩ := ix_nat (conv := conv) (n := n) (z := h0) (by omega)
      have HE := Lib.hid (head_in (size := size) (b := []) HZ.out (by rw [HN.out]; exact hj) hzj)
      have hw2 : IntKind.i64.wrap (h0 - conv) = (j : Int) := by rw [show h0 - conv = j by omega]; exact IntWalk.i64_in _ (by omega)
      have hjI : (j : Int) < (n : Int) := by omega
      clear hlo hhi hzj
      obtain ⟨ad, rfl, _, pc⟩ := (Rd.gp HR.out H1.out).point (k := j) (by rw [HN.out]; exact hj)
      generalize ps.getD j 0 = x at HE pc
      by_cases hxs : x < size
      rotate_left
      · have hd2 : decide (size ≤ x) = true := decide_eq_true (by omega)
        have HE := Lib.hid (heads_no0 (h0 := h0) (h1 := h1) (h2 := h2) (HE.out.trans (show _ = false by simp [hxs])))
        clear hxs
        go_wp2
        go_quiet (fail)
        have hb4 := below_draws H1.out.2.2 nq
        generalize wr.drewN nq = w4 at hb4 ⊢
        go_wp2
        go_ret
        exact ⟨ret_bool (HRes.out.trans (by rw [HE.out]; rfl)), hb4⟩
      have hd2 : decide (size ≤ x) = false := decide_eq_false (by omega)
      have HE2 := Lib.hid (HE.out.trans (show _ = !hasZ [] h0 by simp [hxs]))
      clear hxs HE
      go_wp2
      go_quiet (fail)
      have H3 := Lib.hid (GP.drewN H1.out nq)
      clear c0 c1 c2 c3 c4 cl a0 a1 a2 a3 al pc H1
      generalize wr.drewN nq = w3 at H3 ⊢
      go_wp2
      go_loopw [7] (fun i wr => ∃ m : Nat, m ≤ 0 ∧ i = .int .i64 m ∧ w3 = wr ∧ True) (fun i _ => 0 - (intOf i).toNat)
      case atStart => exact ⟨0, by omega, rfl, rfl, trivial⟩
      case round =>
        obtain ⟨m, hm', rfl, rfl, -⟩ := hrel
        obtain ⟨a0, a1, a2, a3, al⟩ := id H3.out.2.1
        obtain rfl : m = 0 := by omega
        · have HE3 := Lib.hid (HE2.out.trans (show (!hasZ [] h0) = true by rw [has0]; rfl))
          go_wp2
          go_roundw
          case rel => exact ⟨1, by omega, by go_num, H3.out, fun _ => HE3.out, fun h => absurd h (by omega), fun h => absurd h (by omega)⟩
          case measure => simp [intOf]
    · by_cases hz : h1 = 0
      · have HE := Lib.hid (head_zero (conv := conv) (size := size) (ps := ps) (b := [h0]) hz)
        have hq : (h1 == 0) = true := by simpa using hz
        clear hz
        go_wp2
        go_roundw
        case rel => exact ⟨2, by omega, by go_num, H1.out, fun _ => T1.out (by omega), fun _ => HE.out, fun h => absurd h (by omega)⟩
        case measure => simp [intOf]
      have hq : (h1 == 0) = false := by simpa using hz
      have HZ := Lib.hid hz
      clear hz
      by_cases hlo : h1 < conv
      · have HE := Lib.hid (heads_no1 (h0 := h0) (h1 := h1) (h2 := h2) (head_low (size := size) (ps := ps) (b := [h0]) HZ.out hlo))
        have hd0 : decide (h1 < conv) = true := decide_eq_true hlo
        clear hlo
        go_wp2
        go_quiet (fail)
        have hb4 := below_draws H1.out.2.2 nq
        generalize wr.drewN nq = w4 at hb4 ⊢
        go_wp2
        go_ret
        exact ⟨ret_bool (HRes.out.trans (by rw [HE.out]; rfl)), hb4⟩
      have hd0 : decide (h1 < conv) = false := decide_eq_false hlo
      by_cases hhi : conv + n ≤ h1
      · have HE := Lib.hid (heads_no1 (h0 := h0) (h1 := h1) (h2 := h2) (head_high (size := size) (ps := ps) (b := [h0]) HZ.out (by rw [HN.out]; exact hhi)))
        have hd1 : decide (conv + (n : Int) ≤ h1) = true := decide_eq_true hhi
        clear hlo hhi
        go_wp2
        go_quiet (fail)
        have hb4 := below_draws H1.out.2.2 nq
        generalize wr.drewN nq = w4 at hb4 ⊢
        go_wp2
        go_ret
        exact ⟨ret_bool (HRes.out.trans (by rw [HE.out]; rfl)), hb4⟩
      have hd1 : decide (conv + (n : Int) ≤ h1) = false := decide_eq_false hhi
      obtain ⟨j, hj, hzj, -, -⟩ := ix_nat (conv := conv) (n := n) (z := h1) (by omega)
      have HE := Lib.hid (head_in (size := size) (b := [h0]) HZ.out (by rw [HN.out]; exact hj) hzj)
      have hw2 : IntKind.i64.wrap (h1 - conv) = (j : Int) := by rw [show h1 - conv = j by omega]; exact IntWalk.i64_in _ (by omega)
      have hjI : (j : Int) < (n : Int) := by omega
      clear hlo hhi hzj
      obtain ⟨ad, rfl, _, pc⟩ := (Rd.gp HR.out H1.out).point (k := j) (by rw [HN.out]; exact hj)
      generalize ps.getD j 0 = x at HE pc
      by_cases hxs : x < size
      rotate_left
      · have hd2 : decide (size ≤ x) = true := decide_eq_true (by omega)
        have HE := Lib.hid (heads_no1 (h0 := h0) (h1 := h1) (h2 := h2) (HE.out.trans (show _ = false by simp [hxs])))
        clear hxs
        go_wp2
        go_quiet (fail)
        have hb4 := below_draws H1.out.2.2 nq
        generalize wr.drewN nq = w4 at hb4 ⊢
        go_wp2
        go_ret
        exact ⟨ret_bool (HRes.out.trans (by rw [HE.out]; rfl)), hb4⟩
      have hd2 : decide (size ≤ x) = false := decide_eq_false (by omega)
      have HE2 := Lib.hid (HE.out.trans (show _ = !hasZ [h0] h1 by simp [hxs]))
      clear hxs HE
      go_wp2
      go_quiet (fail)
      have H3 := Lib.hid (GP.drewN H1.out nq)
      clear c0 c1 c2 c3 c4 cl a0 a1 a2 a3 al pc H1
      generalize wr.drewN nq = w3 at H3 ⊢
      go_wp2
      go_loopw [7] (fun i wr => ∃ m : Nat, m ≤ 1 ∧ i = .int .i64 m ∧ w3 = wr ∧ (1 ≤ m → h0 ≠ h1)) (fun i _ => 1 - (intOf i).toNat)
      case atStart => exact ⟨0, by omega, rfl, rfl, fun h => absurd h (by omega)⟩
      case round =>
        obtain ⟨m, hm', rfl, rfl, m0⟩ := hrel
        obtain ⟨a0, a1, a2, a3, al⟩ := id H3.out.2.1
        have M0 := Lib.hid m0
        clear m0
        obtain rfl | rfl : m = 0 ∨ m = 1 := by omega
        · by_cases he : h0 = h1
          · have hq2 : (h0 == h1) = true := by simpa using he
            have HE3 := Lib.hid (heads_no1 (h0 := h0) (h1 := h1) (h2 := h2) (HE2.out.trans (show (!hasZ [h0] h1) = false by rw [has1 h0 h1]; simp [he])))
            clear he
            go_wp2
            go_ret
            exact ⟨ret_bool (HRes.out.trans (by rw [HE3.out]; rfl)), H3.out.2.2⟩
          · have hq2 : (h0 == h1) = false := by simpa using he
            have HNE := Lib.hid he
            clear he
            go_wp2
            go_roundw
            case rel => exact ⟨1, by omega, by go_num, trivial, fun _ => HNE.out⟩
            case measure => simp [intOf]
        · have HE3 := Lib.hid (HE2.out.trans (show (!hasZ [h0] h1) = true by rw [has1]; simp [Ne.symm (M0.out (by omega))]))
          go_wp2
          go_roundw
          case rel => exact ⟨2, by omega, by go_num, H3.out, fun _ => T1.out (by omega), fun _ => HE3.out, fun h => absurd h (by omega)⟩
          case measure => simp [intOf]
    · by_cases hz : h2 = 0
      · have HE := Lib.hid (head_zero (conv := conv) (size := size) (ps := ps) (b := [h0, h1]) hz)
        have hq : (h2 == 0) = true := by simpa using hz
        clear hz
        go_wp2
        go_roundw
        case rel => exact ⟨3, by omega, by go_num, H1.out, fun _ => T1.out (by omega), fun _ => T2.out (by omega), fun _ => HE.out⟩
        case measure => simp [intOf]
      have hq : (h2 == 0) = false := by simpa using hz
      have HZ := Lib.hid hz
      clear hz
      by_cases hlo : h2 < conv
      · have HE := Lib.hid (heads_no2 (h0 := h0) (h1 := h1) (h2 := h2) (head_low (size := size) (ps := ps) (b := [h0, h1]) HZ.out hlo))
        have hd0 : decide (h2 < conv) = true := decide_eq_true hlo
        clear hlo
        go_wp2
        go_quiet (fail)
        have hb4 := below_draws H1.out.2.2 nq
        generalize wr.drewN nq = w4 at hb4 ⊢
        go_wp2
        go_ret
        exact ⟨ret_bool (HRes.out.trans (by rw [HE.out]; rfl)), hb4⟩
      have hd0 : decide (h2 < conv) = false := decide_eq_false hlo
      by_cases hhi : conv + n ≤ h2
      · have HE := Lib.hid (heads_no2 (h0 := h0) (h1 := h1) (h2 := h2) (head_high (size := size) (ps := ps) (b := [h0, h1]) HZ.out (by rw [HN.out]; exact hhi)))
        have hd1 : decide (conv + (n : Int) ≤ h2) = true := decide_eq_true hhi
        clear hlo hhi
        go_wp2
        go_quiet (fail)
        have hb4 := below_draws H1.out.2.2 nq
        generalize wr.drewN nq = w4 at hb4 ⊢
        go_wp2
        go_ret
        exact ⟨ret_bool (HRes.out.trans (by rw [HE.out]; rfl)), hb4⟩
      have hd1 : decide (conv + (n : Int) ≤ h2) = false := decide_eq_false hhi
      obtain ⟨j, hj, hzj, -, -⟩ := ix_nat (conv := conv) (n := n) (z := h2) (by omega)
      have HE := Lib.hid (head_in (size := size) (b := [h0, h1]) HZ.out (by rw [HN.out]; exact hj) hzj)
      have hw2 : IntKind.i64.wrap (h2 - conv) = (j : Int) := by rw [show h2 - conv = j by omega]; exact IntWalk.i64_in _ (by omega)
      have hjI : (j : Int) < (n : Int) := by omega
      clear hlo hhi hzj
      obtain ⟨ad, rfl, _, pc⟩ := (Rd.gp HR.out H1.out).point (k := j) (by rw [HN.out]; exact hj)
      generalize ps.getD j 0 = x at HE pc
      by_cases hxs : x < size
      rotate_left
      · have hd2 : decide (size ≤ x) = true := decide_eq_true (by omega)
        have HE := Lib.hid (heads_no2 (h0 := h0) (h1 := h1) (h2 := h2) (HE.out.trans (show _ = false by simp [hxs])))
        clear hxs
        go_wp2
        go_quiet (fail)
        have hb4 := below_draws H1.out.2.2 nq
        generalize wr.drewN nq = w4 at hb4 ⊢
        go_wp2
        go_ret
        exact ⟨ret_bool (HRes.out.trans (by rw [HE.out]; rfl)), hb4⟩
      have hd2 : decide (size ≤ x) = false := decide_eq_false (by omega)
      have HE2 := Lib.hid (HE.out.trans (show _ = !hasZ [h0, h1] h2 by simp [hxs]))
      clear hxs HE
      go_wp2
      go_quiet (fail)
      have H3 := Lib.hid (GP.drewN H1.out nq)
      clear c0 c1 c2 c3 c4 cl a0 a1 a2 a3 al pc H1
      generalize wr.drewN nq = w3 at H3 ⊢
      go_wp2
      go_loopw [7] (fun i wr => ∃ m : Nat, m ≤ 2 ∧ i = .int .i64 m ∧ w3 = wr ∧ (1 ≤ m → h0 ≠ h2) ∧ (2 ≤ m → h1 ≠ h2)) (fun i _ => 2 - (intOf i).toNat)
      case atStart => exact ⟨0, by omega, rfl, rfl, fun h => absurd h (by omega), fun h => absurd h (by omega)⟩
      case round =>
        obtain ⟨m, hm', rfl, rfl, m0, m1⟩ := hrel
        obtain ⟨a0, a1, a2, a3, al⟩ := id H3.out.2.1
        have M0 := Lib.hid m0
        clear m0
        have M1 := Lib.hid m1
        clear m1
        obtain rfl | rfl | rfl : m = 0 ∨ m = 1 ∨ m = 2 := by omega
        · by_cases he : h0 = h2
          · have hq2 : (h0 == h2) = true := by simpa using he
            have HE3 := Lib.hid (heads_no2 (h0 := h0) (h1 := h1) (h2 := h2) (HE2.out.trans (show (!hasZ [h0, h1] h2) = false by rw [has2 h0 h1 h2]; simp [he])))
            clear he
            go_wp2
            go_ret
            exact ⟨ret_bool (HRes.out.trans (by rw [HE3.out]; rfl)), H3.out.2.2⟩
          · have hq2 : (h0 == h2) = false := by simpa using he
            have HNE := Lib.hid he
            clear he
            go_wp2
            go_roundw
            case rel => exact ⟨1, by omega, by go_num, trivial, fun _ => HNE.out, fun h => absurd h (by omega)⟩
            case measure => simp [intOf]
        · by_cases he : h1 = h2
          · have hq2 : (h1 == h2) = true := by simpa using he
            have HE3 := Lib.hid (heads_no2 (h0 := h0) (h1 := h1) (h2 := h2) (HE2.out.trans (show (!hasZ [h0, h1] h2) = false by rw [has2 h0 h1 h2]; simp [he])))
            clear he
            go_wp2
            go_ret
            exact ⟨ret_bool (HRes.out.trans (by rw [HE3.out]; rfl)), H3.out.2.2⟩
          · have hq2 : (h1 == h2) = false := by simpa using he
            have HNE := Lib.hid he
            clear he
            go_wp2
            go_roundw
            case rel => exact ⟨2, by omega, by go_num, trivial, fun _ => M0.out (by omega), fun _ => HNE.out⟩
            case measure => simp [intOf]
        · have HE3 := Lib.hid (HE2.out.trans (show (!hasZ [h0, h1] h2) = true by rw [has2]; simp [Ne.symm (M0.out (by omega)), Ne.symm (M1.out (by omega))]))
          go_wp2
          go_roundw
          case rel => exact ⟨3, by omega, by go_num, H3.out, fun _ => T1.out (by omega), fun _ => T2.out (by omega), fun _ => HE3.out⟩
          case measure => simp [intOf]
    · have HV := Lib.hid (HRes.out.trans (show _ = ptsB conv size h0 h1 h2 0 (ps.drop 0) by simp only [headsB, T1.out (by omega), T2.out (by omega), T3.out (by omega)]; rfl))
      go_wp2
      clear c0 c1 c2 c3 c4 cl a0 a1 a2 a3 al
      rw [show ((3 : Nat) : Int) = (3 : Int) from rfl]
      go_loopw [8] (fun i w5 => ∃ m : Nat, m ≤ n ∧ i = .int .i64 m ∧ GP w w5 conv soft n size opn A n cap h0 h1 h2 ∧ res = ptsB conv size h0 h1 h2 m (ps.drop m)) (fun i _ => n - (intOf i).toNat)
      case atStart => exact ⟨0, by omega, rfl, H1.out, HV.out⟩
      case round =>
        obtain ⟨m, hm', rfl, hw1, hv⟩ := hrel
        have H2 := Lib.hid hw1
        have HV2 := Lib.hid hv
        clear hw1 hv HV
        obtain ⟨a0, a1, a2, a3, al⟩ := id H2.out.2.1
        by_cases hlt : m < n
        rotate_left
        · obtain rfl : n = m := by omega
          have HV3 := Lib.hid (HV2.out.trans (show _ = true by rw [← HN.out]; exact pts_end))
          go_wp2
          go_ret
          exact ⟨ret_bool HV3.out, H2.out.2.2⟩
        obtain ⟨ad, hA, _, pc⟩ := (Rd.gp HR.out H2.out).point (k := m) (by rw [HN.out]; exact hlt)
        subst hA
        have hx : ps[m]? = some (ps.getD m 0) := by simp [HN.out, hlt]
        generalize ps.getD m 0 = x at pc hx
        have HP := Lib.hid (HV2.out.trans (pts_at hx))
        clear HV2 hx
        obtain ⟨c0, c1, c2, c3, c4, cl⟩ := id H2.out.1
        have hmI : (m : Int) < (n : Int) := by omega
        by_cases hx0 : 0 ≤ x
        rotate_left
        · have hd0 : decide (x < 0) = true := decide_eq_true (by omega)
          have HV3 := Lib.hid (HP.out.trans (show _ = false by rw [pt_neg hx0]; rfl))
          clear hx0
          go_wp2
          go_ret
          exact ⟨ret_bool HV3.out, H2.out.2.2⟩
        have hd0 : decide (x < 0) = false := decide_eq_false (by omega)
        by_cases hx1 : x ≤ size
        rotate_left
        · have hd1 : decide (size < x) = true := decide_eq_true (by omega)
          have HV3 := Lib.hid (HP.out.trans (show _ = false by rw [pt_big hx1]; rfl))
          clear hx1 hx0
          go_wp2
          go_ret
          exact ⟨ret_bool HV3.out, H2.out.2.2⟩
        have hd1 : decide (size < x) = false := decide_eq_false (by omega)
        have HP2 := Lib.hid (HP.out.trans (show _ = ((!partB size x || isH h0 h1 h2 (conv + m)) && ptsB conv size h0 h1 h2 (m + 1) (ps.drop (m + 1))) by rw [pt_mid hx0 hx1]))
        have hw := IntWalk.i64_in (conv + (m : Int)) (by omega)
        clear hx0 hx1 HP
        by_cases hz0 : x = 0
        · have hq0 : (x != 0) = false := by simpa using hz0
          have HV3 := Lib.hid (HP2.out.trans (show _ = ptsB conv size h0 h1 h2 (m + 1) (ps.drop (m + 1)) by simp [partB, hz0]))
          clear hz0 HP2
          go_wp2
          go_roundw
          case rel => exact ⟨m + 1, by omega, by go_num, H2.out, HV3.out⟩
          case measure => simp [intOf]; omega
        have hq0 : (x != 0) = true := by simpa using hz0
        by_cases hzs : x = size
        · have hq1 : (x != size) = false := by simpa using hzs
          have HV3 := Lib.hid (HP2.out.trans (show _ = ptsB conv size h0 h1 h2 (m + 1) (ps.drop (m + 1)) by simp [partB, hzs]))
          clear hz0 hzs HP2
          go_wp2
          go_roundw
          case rel => exact ⟨m + 1, by omega, by go_num, H2.out, HV3.out⟩
          case measure => simp [intOf]; omega
        have hq1 : (x != size) = true := by simpa using hzs
        have HP3 := Lib.hid (HP2.out.trans (show _ = (isH h0 h1 h2 (conv + m) && ptsB conv size h0 h1 h2 (m + 1) (ps.drop (m + 1))) by rw [show partB size x = true by simp [partB, hz0, hzs]]; rfl))
        clear hz0 hzs HP2
        go_wp2_with fail
        refine (rphead_any (some ad) n cap h0 h1 h2 (conv + m) _ (by omega)).mono ?_
        rintro e w6 ⟨rfl, hb⟩
        have H4 := Lib.hid (GP.below H2.out hb)
        clear c0 c1 c2 c3 c4 cl a0 a1 a2 a3 al hb H2 pc
        cases hih : isH h0 h1 h2 (conv + m)
        · have HV3 := Lib.hid (HP3.out.trans (show _ = false by rw [hih]; rfl))
          clear hih HP3
          go_wp2
          go_ret
          exact ⟨ret_bool HV3.out, H4.out.2.2⟩
        have HV3 := Lib.hid (HP3.out.trans (show _ = ptsB conv size h0 h1 h2 (m + 1) (ps.drop (m + 1)) by rw [hih]; rfl))
        clear hih HP3
        go_wp2
        go_roundw
        case rel => exact ⟨m + 1, by omega, by go_num, H4.out, HV3.out⟩
        case measure => simp [intOf]; omega
end Go.Proofs.Ytbhcemipjfdemaa

/-
  The document's answer for layer 12: Keep, Zones, some.
-/
import Derived.Test.YtbhcemipjfdemaaLaC
import Derived.Test.YtbhcemipjfdemaaLaE
namespace Go.Proofs.Ytbhcemipjfdemaa
open Go.RowKit Geom Leaf Pol
set_option linter.unusedVariables false

section
variable (conv soft seq size opn : Int) (A : Option Addr) (n cap : Nat) (p : PS)
theorem keep_hd {conv seq size : Int} {p : PS} (S : Some conv seq size) (R : Rt conv seq size p) : keepN conv size p = if p.h2 = 0 then 2 else 1 := by
  obtain ⟨r0, _, r2⟩ := Rt.rm0 R S (s := 2) (by omega)
  unfold keepN
  by_cases h : p.h2 = 0
  · have e := r2.2 h
    rw [if_neg (by omega), if_pos h]
  · have e : rm conv size p 2 ≠ 0 := fun e => h (r2.1 e)
    rw [if_pos (by omega), if_neg h]
set_option maxRecDepth 100000 in
theorem rlkeep_any (w : World) (S : Some conv seq size) (R : Rt conv seq size p) :
    Calls Try.prog 20 #[pgv conv soft seq size opn, ppv A n cap p.h0 p.h1 p.h2] w fun e w' => e = .returned (.int .i64 (keepN conv size p)) ∧ Below w.heap.size w w' := by
  have H0 := Lib.hid (GP.new w conv soft seq size opn A n cap p.h0 p.h1 p.h2 23 27)
  have HK := Lib.hid (keep_hd S R)
  clear S R
  generalize p.h0 = h0 at *
  generalize p.h1 = h1 at *
  generalize p.h2 = h2 at *
  by_cases h : h2 = 0
  · have hd : (h2 == 0) = true := by simp [h]
    have HV : Hid (keepN conv size p = 2) := Lib.hid (by rw [HK.out, if_pos h])
    clear h
    go_enter Try.func20, Try.ntmps20
    go_wp2
    go_ret
    exact ⟨ret_int HV.out, H0.out.2.2⟩
  · have hd : (h2 == 0) = false := by simp [h]
    have HV : Hid (keepN conv size p = 1) := Lib.hid (by rw [HK.out, if_neg h])
    clear h
    go_enter Try.func20, Try.ntmps20
    go_wp2
    go_ret
    exact ⟨ret_int HV.out, H0.out.2.2⟩
theorem need_step {size r m z : Int} (hs : 0 < size) (h : r + z * size < m) (hz : 0 ≤ z) : z + 1 ≤ need size r m := by
  have h0 : 0 ≤ z * size := Int.mul_nonneg hz (by omega)
  unfold need
  rw [if_neg (by omega)]
  have := Int.le_ediv_of_mul_le (a := z) (b := m - r - 1) hs (by omega)
  omega
theorem need_end {size r m z : Int} (hs : 0 < size) (h : m ≤ r + z * size) (hz : 0 ≤ z) : need size r m ≤ z := by
  unfold need
  split
  · exact hz
  · have := Int.ediv_lt_of_lt_mul (a := m - r - 1) (b := z) hs (by omega)
    omega
set_option maxRecDepth 100000 in
theorem rlzones_any (s m : Nat) (w : World) (hm : n ≤ 64) (hn : p.ps.length = n) (S : Some conv seq size) (R : Rt conv seq size p) (hs : s < 3) (hk : m ≤ 10000) (hr : Rd w w.heap.size A (is p.ps)) :
    Calls Try.prog 18 #[pgv conv soft seq size opn, ppv A n cap p.h0 p.h1 p.h2, .int .i64 s, .int .i64 m] w fun e w' => e = .returned (.int .i64 (need size (rm conv size p s) m)) ∧ Below w.heap.size w w' := by
  have H0 := Lib.hid (GP.new w conv soft seq size opn A n cap p.h0 p.h1 p.h2 23 27)
  have HR := Lib.hid fun w' (h : GP w w' conv soft seq size opn A n cap p.h0 p.h1 p.h2) => both_rroom conv soft seq size opn n p.ps p.h0 p.h1 p.h2 s hm hn S R hs w' A cap (hr.gp h)
  have erm : (if hd p.h0 p.h1 p.h2 s = 0 then 0 else size - p.ps.getD (hd p.h0 p.h1 p.h2 s - conv).toNat 0) = rm conv size p s := rfl
  rw [erm] at HR
  obtain ⟨r0, r1, _⟩ := Rt.rm0 R S hs
  generalize rm conv size p s = r at *
  obtain ⟨q1, q2, q3, q4, q5⟩ := S
  clear hr R hn hm erm
  generalize p.h0 = h0 at *
  generalize p.h1 = h1 at *
  generalize p.h2 = h2 at *
  go_enter Try.func18, Try.ntmps18
  go_wp2_with fail
  generalize World.alloc _ _ = w0 at H0 ⊢
  obtain ⟨c0, c1, c2, c3, c4, cl⟩ := id H0.out.1
  obtain ⟨a0, a1, a2, a3, al⟩ := id H0.out.2.1
  go_wp2_with fail
  refine (HR.out _ H0.out).mono ?_
  rintro e w1 ⟨rfl, hb⟩
  have H1 := Lib.hid (GP.below H0.out hb)
  clear hb c0 c1 c2 c3 c4 cl a0 a1 a2 a3 al H0 HR
  obtain ⟨c0, c1, c2, c3, c4, cl⟩ := id H1.out.1
  go_wp2
  go_loopw [9, 10] (fun x i wr => ∃ (z : Nat) (lf : Int), x = .int .i64 lf ∧ i = .int .i64 z ∧ Hid (lf = r + z * size) ∧ 0 ≤ lf ∧ lf ≤ 20000 ∧ Hid ((z : Int) ≤ need size r m) ∧ z ≤ 20000 ∧ w1 = wr) (fun x _ _ => (20001 - intOf x).toNat)
  case atStart => exact ⟨0, r, rfl, rfl, Lib.hid (by simp), by omega, by omega, Lib.hid (need_nn (by omega)), by omega, rfl⟩
  case round =>
    obtain ⟨z, lf, rfl, rfl, hlf, hl0, hl1, hz, hz1, rfl⟩ := hrel
    by_cases h : lf < (m : Int)
    · have hd : decide (lf < (m : Int)) = true := decide_eq_true h
      have hst := need_step (r := r) (m := m) (z := z) (by omega : 0 < size) (by rw [← hlf.out]; exact h) (by omega)
      have HN := Lib.hid hst
      have HL : Hid (lf + size = r + ((z + 1 : Nat) : Int) * size) := Lib.hid (by rw [hlf.out, Int.natCast_succ, Int.add_mul]; omega)
      have hzl : z * 8 ≤ 20000 := by
        have h1 : (z : Int) * 8 ≤ z * size := Int.mul_le_mul_of_nonneg_left (by omega) (by omega)
        have := hlf.out
        omega
      have hw := IntWalk.i64_in (lf + size) (by omega)
      clear hst hlf hz
      go_wp2
      go_roundw
      case rel => exact ⟨z + 1, lf + size, by go_num, by go_num, HL, by omega, by omega, Lib.hid (by have := HN.out; omega), by omega, by first | rfl | trivial⟩
      case measure => first | (simp [intOf]; done) | (simp [intOf]; omega)
    · have hd : decide (lf < (m : Int)) = false := decide_eq_false h
      have he := need_end (r := r) (m := m) (z := z) (by omega : 0 < size) (by rw [← hlf.out]; omega) (by omega)
      have HV : Hid (need size r m = (z : Int)) := Lib.hid (by have := hz.out; omega)
      clear he hlf hz
      go_wp2
      go_ret
      exact ⟨ret_int HV.out, H1.out.2.2⟩
end
theorem rep_succ (x : Int) (k : Nat) : List.replicate (k + 1) x = List.replicate k x ++ [x] := List.replicate_succ'
set_option maxRecDepth 100000 in
theorem rsome_any (s t : Int) (a b : Nat) (w : World) (ha : a ≤ 10000) (hb : b ≤ 10000) :
    Calls Try.prog 34 #[.int .i64 s, .int .i64 a, .int .i64 t, .int .i64 b] w fun e w' => ∃ A' c, e = .returned (.slice A' (a + b) c) ∧ w'.ownsRow w.heap.size 3 1 (.slice A' (a + b) c) (a + b) (is (List.replicate a s ++ List.replicate b t)) ∧ Below w.heap.size w w' := by
  go_enter Try.func34, Try.ntmps34
  go_wp2
  go_loopw [9, 10] (fun V i wr => ∃ k : Nat, k ≤ a ∧ i = .int .i64 k ∧ wr.ownsRow w.heap.size 3 1 V k (is (List.replicate k s)) ∧ Below w.heap.size w wr) (fun _ i _ => a - (intOf i).toNat)
  case atStart => exact ⟨0, by omega, rfl, World.ownsRow_nil _ _ _ _, Below.refl _ _⟩
  case round =>
    obtain ⟨k, hk, rfl, hown, hbl⟩ := hrel
    by_cases hlt : k < a
    · have hki : (k : Int) < (a : Int) := by omega
      have hsz' := hbl.size
      go_wp2_with (at_builtin; (refine wpList_append_one _ rfl _ _ _ rfl w.heap.size 3 _ 8 pelemI u9 k (is (List.replicate k s)) rfl (.int .i64 s) rfl hown rfl (by simp only [maxLen]; omega) (by omega) hsz' ?_); intro v1 w3 hown1 hg1; have HO := Lib.hid (And.intro hown1 (hbl.grown hg1 hsz' fun g hg => (hown.lt g hg).1)); clear hown1 hg1)
      go_roundw
      case rel => exact ⟨k + 1, by omega, by go_num, by rw [rep_succ, pis_append]; exact HO.out.1, HO.out.2⟩
      case measure => first | (simp [intOf]; done) | (simp [intOf]; omega)
    · obtain rfl : a = k := by omega
      have hka : ¬ ((a : Int) < (a : Int)) := by omega
      have HO := Lib.hid (And.intro hown hbl)
      clear hown hbl
      go_wp2
      go_loopw [9, 11] (fun V i wr2 => ∃ k : Nat, k ≤ b ∧ i = .int .i64 k ∧ wr2.ownsRow w.heap.size 3 1 V (a + k) (is (List.replicate a s ++ List.replicate k t)) ∧ Below w.heap.size w wr2) (fun _ i _ => b - (intOf i).toNat)
      case atStart => exact ⟨0, by omega, rfl, by simpa using HO.out.1, HO.out.2⟩
      case round =>
        obtain ⟨k, hk, rfl, hown, hbl⟩ := hrel
        by_cases hlt : k < b
        · have hki : (k : Int) < (b : Int) := by omega
          have hsz' := hbl.size
          clear HO
          go_wp2_with (at_builtin; (refine wpList_append_one _ rfl _ _ _ rfl w.heap.size 3 _ 8 pelemI u9 (a + k) (is (List.replicate a s ++ List.replicate k t)) rfl (.int .i64 t) rfl hown rfl (by simp only [maxLen]; omega) (by omega) hsz' ?_); intro v1 w3 hown1 hg1; have HO := Lib.hid (And.intro hown1 (hbl.grown hg1 hsz' fun g hg => (hown.lt g hg).1)); clear hown1 hg1)
          go_roundw
          case rel => exact ⟨k + 1, by omega, by go_num, by rw [rep_succ, ← List.append_assoc, pis_append]; exact HO.out.1, HO.out.2⟩
          case measure => first | (simp [intOf]; done) | (simp [intOf]; omega)
        · obtain rfl : b = k := by omega
          have hkb : ¬ ((b : Int) < (b : Int)) := by omega
          obtain ⟨A', c, rfl⟩ := own_slice hown
          have HO := Lib.hid (And.intro hown hbl)
          clear hown hbl
          go_wp2
          go_ret
          exact ⟨A', c, rfl, HO.out.1, HO.out.2⟩
end Go.Proofs.Ytbhcemipjfdemaa

/-
  Layer 12's laws: few, Num, Little, right; 'awake' answers true.
-/
import Derived.Test.YtbhcemipjfdemaaLaG
namespace Go.Proofs.Ytbhcemipjfdemaa
open Go.RowKit Geom Leaf Pol
set_option linter.unusedVariables false

namespace Pol
def numB (x : Int) : Bool := decide (0 ≤ x) && decide (x ≤ 4096)
theorem num_yes {x : Int} (h : numB x = true) : ∃ k : Nat, x = k ∧ k ≤ 4096 := by
  simp [numB] at h
  exact ⟨x.toNat, by omega, by omega⟩
def fewB (xs : List Int) : Bool := decide (∀ x ∈ xs.take 500, 0 ≤ x ∧ x ≤ 2) && decide (xs.length ≤ 300)
theorem few_yes {xs : List Int} (h : fewB xs = true) : ∃ ss : List Nat, xs = ss.map Int.ofNat ∧ (∀ s ∈ ss, s < 3) ∧ ss.length ≤ 300 := by
  simp only [fewB, Bool.and_eq_true, decide_eq_true_eq] at h
  obtain ⟨h1, h2⟩ := h
  rw [List.take_of_length_le (by omega)] at h1
  refine ⟨xs.map Int.toNat, ?_, ?_, by simpa using h2⟩
  · rw [List.map_map]
    symm
    rw [List.map_congr_left (g := id), List.map_id]
    intro x hx
    have := h1 x hx
    simp only [Function.comp, id]
    show ((x.toNat : Nat) : Int) = x
    omega
  · intro s hs
    obtain ⟨x, hx, rfl⟩ := List.mem_map.1 hs
    have := h1 x hx
    omega
def rtB (conv soft seq size opn : Int) (ps : List Int) (h0 h1 h2 : Int) : Bool := okB conv soft seq size opn && (decide (seq ≤ 12) && (decide (size ≤ 24) && rightB conv seq size ps h0 h1 h2))
end Pol
theorem num12_any (x : Int) (w : World) : Calls Try.prog 12 #[.int .i64 x] w fun e w' => e = .returned (.bool (numB x)) ∧ w = w' := by
  by_cases h1 : 0 ≤ x
  · have d1 : decide (0 ≤ x) = true := decide_eq_true h1
    by_cases h2 : x ≤ 4096
    · have d2 : decide (x ≤ 4096) = true := decide_eq_true h2
      have HV : Hid (numB x = true) := Lib.hid (by simp [numB, h1, h2])
      go_enter Try.func12, Try.ntmps12
      go_wp2
      go_ret
      exact ⟨ret_bool HV.out, rfl⟩
    · have d2 : decide (x ≤ 4096) = false := decide_eq_false h2
      have HV : Hid (numB x = false) := Lib.hid (by simp [numB, h1, h2])
      go_enter Try.func12, Try.ntmps12
      go_wp2
      go_ret
      exact ⟨ret_bool HV.out, rfl⟩
  · have d1 : decide (0 ≤ x) = false := decide_eq_false h1
    have HV : Hid (numB x = false) := Lib.hid (by simp [numB, h1])
    go_enter Try.func12, Try.ntmps12
    go_wp2
    go_ret
    exact ⟨ret_bool HV.out, rfl⟩
set_option maxRecDepth 100000 in
theorem few12_any (A : Option Addr) (n cap : Nat) (xs : List Int) (w : World) (hm : n ≤ maxLen) (hn : xs.length = n) (B : Nat) (hr : Rd w B A (is xs)) :
    Calls Try.prog 11 #[.slice A n cap] w fun e w' => e = .returned (.bool (fewB xs)) ∧ w = w' := by
  have HN := Lib.hid hn
  have HR := Lib.hid hr
  have hm63 : (n : Int) < 9223372036854775808 := by simp only [maxLen] at hm; omega
  clear hr hn hm
  go_enter Try.func11, Try.ntmps11
  go_wp2
  go_loopw [3] (fun i wr => ∃ k : Nat, k ≤ n ∧ k ≤ 500 ∧ i = .int .i64 k ∧ (∀ x ∈ xs.take k, 0 ≤ x ∧ x ≤ 2) ∧ w = wr) (fun i _ => 501 - (intOf i).toNat)
  case atStart => exact ⟨0, by omega, by omega, rfl, by simp, rfl⟩
  case round =>
    obtain ⟨k, hk, hk5, rfl, hall, rfl⟩ := hrel
    have HA := Lib.hid hall
    clear hall
    by_cases hlt : k < n ∧ k < 500
    · obtain ⟨hlt1, hlt2⟩ := hlt
      have d1 : decide ((k : Int) < (n : Int)) = true := decide_eq_true (by omega)
      have d2 : decide ((k : Int) < 500) = true := decide_eq_true (by omega)
      obtain ⟨ad, rfl, _, hc⟩ := HR.out.point (k := k) (by rw [HN.out]; exact hlt1)
      have hx : xs[k]? = some (xs.getD k 0) := by simp [HN.out, hlt1]
      have hki : (k : Int) < (n : Int) := by omega
      have HX := Lib.hid hx
      clear hx
      generalize xs.getD k 0 = x at *
      have hmem : x ∈ xs.take 500 := by
        have hk' : k < (xs.take 500).length := by rw [List.length_take, HN.out]; omega
        have := HX.out
        rw [List.getElem?_eq_getElem (by rw [HN.out]; exact hlt1)] at this
        injection this with this
        rw [← this]
        exact List.mem_take_iff_getElem.2 ⟨k, by rw [HN.out]; omega, rfl⟩
      by_cases h1 : x < 0
      · have d3 : decide (x < 0) = true := decide_eq_true h1
        have HV : Hid (fewB xs = false) := Lib.hid (by
          simp only [fewB, Bool.and_eq_false_iff]
          left
          exact decide_eq_false fun h => by have := h x hmem; omega)
        clear h1 hmem
        go_wp2
        go_ret
        exact ⟨ret_bool HV.out, rfl⟩
      have d3 : decide (x < 0) = false := decide_eq_false h1
      by_cases h2 : 2 < x
      · have d4 : decide (2 < x) = true := decide_eq_true h2
        have HV : Hid (fewB xs = false) := Lib.hid (by
          simp only [fewB, Bool.and_eq_false_iff]
          left
          exact decide_eq_false fun h => by have := h x hmem; omega)
        clear h2 h1 hmem
        go_wp2
        go_ret
        exact ⟨ret_bool HV.out, rfl⟩
      have d4 : decide (2 < x) = false := decide_eq_false h2
      have HA2 : Hid (∀ y ∈ xs.take (k + 1), 0 ≤ y ∧ y ≤ 2) := Lib.hid (by
        rw [List.take_add_one, HX.out]
        intro y hy
        rcases List.mem_append.1 hy with h | h
        · exact HA.out y h
        · obtain rfl : y = x := by simpa using h
          omega)
      clear h1 h2 hmem
      go_wp2
      go_roundw
      case rel => exact ⟨k + 1, by omega, by omega, by go_num, HA2.out, by first | rfl | trivial⟩
      case measure => first | (simp [intOf]; done) | (simp [intOf]; omega)
    · have HV : Hid (fewB xs = decide (n ≤ 300)) := Lib.hid (by
        have h := HA.out
        simp only [fewB, HN.out]
        by_cases h3 : n ≤ 300
        · have : xs.take 500 = xs.take k := by rw [List.take_of_length_le (by rw [HN.out]; omega), List.take_of_length_le (by rw [HN.out]; omega)]
          rw [this, decide_eq_true h, Bool.true_and]
        · rw [decide_eq_false h3, Bool.and_false])
      by_cases h3 : n ≤ 300
      · have d3 : decide ((n : Int) ≤ 300) = true := decide_eq_true (by omega)
        rw [decide_eq_true h3] at HV
        obtain rfl : k = n := by omega
        have d1 : decide ((k : Int) < (k : Int)) = false := decide_eq_false (by omega)
        clear hlt hk HA h3 hk5
        go_wp2
        go_ret
        exact ⟨ret_bool HV.out, rfl⟩
      · have d3 : decide ((n : Int) ≤ 300) = false := decide_eq_false (by omega)
        rw [decide_eq_false h3] at HV
        by_cases h4 : k < n
        · obtain rfl : k = 500 := by omega
          have d1 : decide ((500 : Int) < (n : Int)) = true := decide_eq_true (by omega)
          rw [show ((500 : Nat) : Int) = 500 from rfl]
          clear h4 hlt hk HA h3 hk5
          go_wp2
          go_ret
          exact ⟨ret_bool HV.out, rfl⟩
        · obtain rfl : k = n := by omega
          have d1 : decide ((k : Int) < (k : Int)) = false := decide_eq_false (by omega)
          clear h4 hlt hk HA h3 hk5
          go_wp2
          go_ret
          exact ⟨ret_bool HV.out, rfl⟩
section
variable (conv soft seq size opn : Int) (A : Option Addr) (n cap : Nat) (ps : List Int) (h0 h1 h2 : Int)
set_option maxRecDepth 100000 in
theorem ltl12_any (w : World) (hm : n ≤ maxLen) (hn : ps.length = n) (S : Some conv seq size) (hr : Rd w w.heap.size A (is ps)) :
    Calls Try.prog 27 #[pgv conv soft seq size opn, ppv A n cap h0 h1 h2] w fun e w' => e = .returned (.bool (decide (seq ≤ 12) && (decide (size ≤ 24) && rightB conv seq size ps h0 h1 h2))) ∧ Below w.heap.size w w' := by
  have H0 := Lib.hid (GP.new w conv soft seq size opn A n cap h0 h1 h2 23 27)
  have HR := Lib.hid fun w' (h : GP w w' conv soft seq size opn A n cap h0 h1 h2) => rpright_any conv soft seq size opn A n cap ps h0 h1 h2 w' hm hn S (hr.gp h)
  clear hr S hm hn
  generalize rightB conv seq size ps h0 h1 h2 = rb at *
  by_cases k1 : seq ≤ 12
  rotate_left
  · have d1 : decide (seq ≤ 12) = false := decide_eq_false k1
    rw [d1, Bool.false_and]
    go_enter Try.func27, Try.ntmps27
    go_wp2_with fail
    generalize World.alloc _ _ = w0 at H0 ⊢
    obtain ⟨c0, c1, c2, c3, c4, cl⟩ := id H0.out.1
    go_wp2
    go_ret
    exact ⟨rfl, H0.out.2.2⟩
  have d1 : decide (seq ≤ 12) = true := decide_eq_true k1
  rw [d1, Bool.true_and]
  by_cases k2 : size ≤ 24
  rotate_left
  · have d2 : decide (size ≤ 24) = false := decide_eq_false k2
    rw [d2, Bool.false_and]
    go_enter Try.func27, Try.ntmps27
    go_wp2_with fail
    generalize World.alloc _ _ = w0 at H0 ⊢
    obtain ⟨c0, c1, c2, c3, c4, cl⟩ := id H0.out.1
    go_wp2
    go_ret
    exact ⟨rfl, H0.out.2.2⟩
  · have d2 : decide (size ≤ 24) = true := decide_eq_true k2
    rw [d2, Bool.true_and]
    go_enter Try.func27, Try.ntmps27
    go_wp2_with fail
    generalize World.alloc _ _ = w0 at H0 ⊢
    obtain ⟨c0, c1, c2, c3, c4, cl⟩ := id H0.out.1
    obtain ⟨a0, a1, a2, a3, al⟩ := id H0.out.2.1
    go_wp2_with fail
    refine (HR.out _ H0.out).mono ?_
    rintro e w2 ⟨rfl, hb⟩
    have H2 := Lib.hid (GP.below H0.out hb)
    clear hb c0 c1 c2 c3 c4 cl a0 a1 a2 a3 al
    go_wp2
    go_ret
    exact ⟨rfl, H2.out.2.2⟩
set_option maxRecDepth 100000 in
theorem right12_any (w : World) (hm : n ≤ maxLen) (hn : ps.length = n) (hr : Rd w w.heap.size A (is ps)) :
    Calls Try.prog 10 #[pgv conv soft seq size opn, ppv A n cap h0 h1 h2] w fun e w' => e = .returned (.bool (rtB conv soft seq size opn ps h0 h1 h2)) ∧ Below w.heap.size w w' := by
  have H0 := Lib.hid (GP.new w conv soft seq size opn A n cap h0 h1 h2 23 27)
  have HB := Lib.hid fun w => rright_any conv soft seq size opn w
  by_cases hok : Ok conv soft seq size opn
  rotate_left
  · have HV : Hid (rtB conv soft seq size opn ps h0 h1 h2 = false) := Lib.hid (by unfold rtB; rw [ok_no hok]; rfl)
    rw [ok_no hok] at HB
    go_enter Try.func10, Try.ntmps10
    go_wp2_with fail
    generalize World.alloc _ _ = w0 at H0 ⊢
    obtain ⟨c0, c1, c2, c3, c4, cl⟩ := id H0.out.1
    go_wp2_with fail
    refine (HB.out _).mono ?_
    rintro e w1 ⟨rfl, hb⟩
    have H1 := Lib.hid (GP.below H0.out hb)
    clear hb c0 c1 c2 c3 c4 cl
    go_wp2
    go_ret
    exact ⟨ret_bool HV.out, H1.out.2.2⟩
  · have HL := Lib.hid fun w' (h : GP w w' conv soft seq size opn A n cap h0 h1 h2) => ltl12_any conv soft seq size opn A n cap ps h0 h1 h2 w' hm hn hok.some (hr.gp h)
    have HV : Hid (rtB conv soft seq size opn ps h0 h1 h2 = (decide (seq ≤ 12) && (decide (size ≤ 24) && rightB conv seq size ps h0 h1 h2))) := Lib.hid (by unfold rtB; rw [ok_yes hok]; rfl)
    generalize (decide (seq ≤ 12) && (decide (size ≤ 24) && rightB conv seq size ps h0 h1 h2)) = lb at *
    rw [ok_yes hok] at HB
    clear hr hok hm hn
    go_enter Try.func10, Try.ntmps10
    go_wp2_with fail
    generalize World.alloc _ _ = w0 at H0 ⊢
    obtain ⟨c0, c1, c2, c3, c4, cl⟩ := id H0.out.1
    go_wp2_with fail
    refine (HB.out _).mono ?_
    rintro e w1 ⟨rfl, hb⟩
    have H1 := Lib.hid (GP.below H0.out hb)
    clear hb c0 c1 c2 c3 c4 cl
    obtain ⟨c0, c1, c2, c3, c4, cl⟩ := id H1.out.1
    obtain ⟨a0, a1, a2, a3, al⟩ := id H1.out.2.1
    go_wp2_with fail
    refine (HL.out _ H1.out).mono ?_
    rintro e w2 ⟨rfl, hb⟩
    have H2 := Lib.hid (GP.below H1.out hb)
    clear hb c0 c1 c2 c3 c4 cl a0 a1 a2 a3 al H1
    go_wp2
    go_ret
    exact ⟨ret_bool HV.out, H2.out.2.2⟩
theorem rt_yes {conv soft seq size opn : Int} {ps : List Int} {h0 h1 h2 : Int} (h : rtB conv soft seq size opn ps h0 h1 h2 = true) : Ok conv soft seq size opn ∧ seq ≤ 12 ∧ size ≤ 24 ∧ Rt conv seq size ⟨ps, h0, h1, h2⟩ := by
  simp only [rtB, Bool.and_eq_true, decide_eq_true_eq] at h
  obtain ⟨a, b, c, d⟩ := h
  refine ⟨?_, b, c, right_iff.1 d⟩
  by_cases hok : Ok conv soft seq size opn
  · exact hok
  · rw [ok_no hok] at a; cases a
end
end Go.Proofs.Ytbhcemipjfdemaa

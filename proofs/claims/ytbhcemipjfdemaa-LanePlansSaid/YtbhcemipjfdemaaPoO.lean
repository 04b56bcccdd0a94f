/-
  The document's answer for layer 11: Head, Same, Room, Zones.
-/
import Derived.Test.YtbhcemipjfdemaaPoI
namespace Go.Proofs.Ytbhcemipjfdemaa
open Go.RowKit Geom Leaf Pol
set_option linter.unusedVariables false

namespace Pol
/-- the zones with a point that are no heads, of the first k -/
def zonF (conv : Int) (ps : List Int) (x h0 h1 h2 : Int) (k : Nat) : List Int := (zonesX conv ps x k).filter fun z => !isH h0 h1 h2 z
theorem zonF_free (conv : Int) (ps : List Int) (h0 h1 h2 : Int) (k : Nat) : zonF conv ps 0 h0 h1 h2 k = freeX conv ps h0 h1 h2 k := rfl
theorem zonF_no {conv x h0 h1 h2 : Int} {ps : List Int} {k : Nat} (h : ¬ ps.getD k 0 = x) : zonF conv ps x h0 h1 h2 (k + 1) = zonF conv ps x h0 h1 h2 k := by
  unfold zonF
  rw [zones_no h]
theorem zonF_yes {conv x h0 h1 h2 : Int} {ps : List Int} {k : Nat} (h : ps.getD k 0 = x) : zonF conv ps x h0 h1 h2 (k + 1) = zonF conv ps x h0 h1 h2 k ++ (if isH h0 h1 h2 (conv + k) = true then [] else [conv + k]) := by
  unfold zonF
  rw [(zones_yes h).1, List.filter_append]
  congr 1
  cases hh : isH h0 h1 h2 (conv + k) <;> simp [hh]
theorem zonF_le (conv : Int) (ps : List Int) (x h0 h1 h2 : Int) (k : Nat) : (zonF conv ps x h0 h1 h2 k).length ≤ k := Nat.le_trans (List.length_filter_le _ _) (zones_le _ _ _ _)
end Pol

set_option maxRecDepth 100000 in
theorem rphead_any (A : Option Addr) (n cap : Nat) (h0 h1 h2 z : Int) (w : World) (hz : z ≠ 0) :
    Calls Try.prog 48 #[ppv A n cap h0 h1 h2, .int .i64 z] w fun e w' => e = .returned (.bool (isH h0 h1 h2 z)) ∧ Below w.heap.size w w' := by
  have hb0 : Below w.heap.size w (w.alloc (.cells #[.slice A n cap, .int .i64 h0, .int .i64 h1, .int .i64 h2] 27)) := (Below.refl _ _).alloc (Nat.le_refl _) _
  have hL := LiesP.new w A n cap h0 h1 h2 27 (0, 0)
  have hq : (z != 0) = true := by simpa using hz
  generalize hr : isH h0 h1 h2 z = r
  have HR := Lib.hid hr
  clear hr hz
  obtain ⟨a0, a1, a2, a3, al⟩ := hL
  by_cases e0 : h0 = z
  · have HV := Lib.hid (HR.out.symm.trans (show isH h0 h1 h2 z = true by simp [isH, e0]))
    have q0 : (h0 == z) = true := by simpa using e0
    clear e0
    go_enter Try.func48, Try.ntmps48
    go_wp2
    go_ret
    exact ⟨ret_bool HV.out, hb0⟩
  have q0 : (h0 == z) = false := by simpa using e0
  by_cases e1 : h1 = z
  · have HV := Lib.hid (HR.out.symm.trans (show isH h0 h1 h2 z = true by simp [isH, e1]))
    have q1 : (h1 == z) = true := by simpa using e1
    clear e0 e1
    go_enter Try.func48, Try.ntmps48
    go_wp2
    go_ret
    exact ⟨ret_bool HV.out, hb0⟩
  have q1 : (h1 == z) = false := by simpa using e1
  have HV := Lib.hid (HR.out.symm.trans (show isH h0 h1 h2 z = (h2 == z) by
    rw [Bool.eq_iff_iff]
    simp only [isH, Bool.or_eq_true, beq_iff_eq]
    constructor
    · rintro (h | h | h)
      · exact absurd h.symm e0
      · exact absurd h.symm e1
      · exact h.symm
    · intro h
      exact .inr (.inr h.symm)))
  clear e0 e1
  go_enter Try.func48, Try.ntmps48
  go_wp2
  go_ret
  exact ⟨ret_bool HV.out, hb0⟩

section
variable (conv soft seq size opn : Int) (A : Option Addr) (n cap : Nat) (ps : List Int) (h0 h1 h2 : Int)
set_option maxRecDepth 100000 in
set_option maxHeartbeats 4000000 in
theorem rpzones_any (x : Int) (w : World) (hm : n ≤ 64) (hn : ps.length = n) (S : Some conv seq size) (hr : Rd w w.heap.size A (is ps)) :
    Calls Try.prog 35 #[pgv conv soft seq size opn, ppv A n cap h0 h1 h2, .int .i64 x] w fun e w' =>
      ∃ v, e = .returned v ∧ w'.ownsRow w.heap.size 3 1 v (zonF conv ps x h0 h1 h2 n).length (is (zonF conv ps x h0 h1 h2 n)) ∧ Below w.heap.size w w' := by
  have H0 := Lib.hid (GP.new w conv soft seq size opn A n cap h0 h1 h2 23 27)
  obtain ⟨q1, q2, q3, q4, q5⟩ := S
  have HN := Lib.hid hn
  have HR := Lib.hid hr
  clear hn hr
  go_enter Try.func35, Try.ntmps35
  go_wp2_with fail
  generalize World.alloc _ _ = w0 at H0 ⊢
  go_loopw [7, 8] (fun o i wr => ∃ k : Nat, k ≤ n ∧ i = .int .i64 k ∧ wr.ownsRow w0.heap.size 3 1 o (zonF conv ps x h0 h1 h2 k).length (is (zonF conv ps x h0 h1 h2 k)) ∧ Below w0.heap.size w0 wr) (fun _ i _ => n - (intOf i).toNat)
  case atStart => exact ⟨0, by omega, rfl, World.ownsRow_nil _ _ _ _, Below.refl _ _⟩
  case round =>
    obtain ⟨k, hk, rfl, hown, hbl⟩ := hrel
    have H1 := Lib.hid (GP.below H0.out hbl)
    obtain ⟨a0, a1, a2, a3, al⟩ := id H1.out.2.1
    by_cases hlt : k < n
    rotate_left
    · obtain rfl : n = k := by omega
      have HO := Lib.hid (own_base0 hown H0.out.2.2.size)
      clear hown hbl
      go_wp2
      go_ret
      exact ⟨_, rfl, HO.out, H1.out.2.2⟩
    obtain ⟨ad, rfl, _, pc⟩ := (Rd.gp HR.out H1.out).point (k := k) (by rw [HN.out]; exact hlt)
    obtain ⟨c0, c1, c2, c3, c4, cl⟩ := id H1.out.1
    have hki : (k : Int) < (n : Int) := by omega
    have hw := IntWalk.i64_in (conv + (k : Int)) (by omega)
    by_cases hx : ps.getD k 0 = x
    rotate_left
    · have HZ := Lib.hid (zonF_no (conv := conv) (h0 := h0) (h1 := h1) (h2 := h2) hx)
      have hq : (ps.getD k 0 == x) = false := by simpa using hx
      have HO := Lib.hid (And.intro hown hbl)
      clear hx hown hbl
      generalize ps.getD k 0 = y at pc hq
      go_wp2
      go_roundw
      case rel => exact ⟨k + 1, by omega, by go_num, by rw [HZ.out]; exact HO.out.1, HO.out.2⟩
      case measure => first | (simp [intOf]; done) | (simp [intOf]; omega)
    have hq : (ps.getD k 0 == x) = true := by simpa using hx
    have HOn := Lib.hid hown
    have HBl := Lib.hid hbl
    have HX := Lib.hid hx
    clear hx hown hbl
    generalize hy : ps.getD k 0 = y at pc hq HX
    have HP := Lib.hid hy
    clear hy
    have HZy := Lib.hid (zonF_yes (conv := conv) (h0 := h0) (h1 := h1) (h2 := h2) (ps := ps) (k := k) (x := x))
    go_wp2_with fail
    refine (rphead_any (some ad) n cap h0 h1 h2 (conv + k) wr (by omega)).mono ?_
    rintro e w2 ⟨rfl, hb⟩
    have H2 := Lib.hid (GP.below H1.out hb)
    have hown2 := own_below HOn.out hb
    have HB2 := Lib.hid (HBl.out.trans (hb.mono HBl.out.size))
    have hsz := HB2.out.size
    obtain ⟨c0, c1, c2, c3, c4, cl⟩ := id H2.out.1
    clear hb H1 HBl HOn pc hq
    have hHX := HX.out
    cases hh : isH h0 h1 h2 (conv + k)
    · have HZ := Lib.hid (show zonF conv ps x h0 h1 h2 (k + 1) = zonF conv ps x h0 h1 h2 k ++ [conv + (k : Int)] ∧ (zonF conv ps x h0 h1 h2 k ++ [conv + (k : Int)]).length = (zonF conv ps x h0 h1 h2 k).length + 1 by
        refine ⟨?_, by simp⟩
        rw [HZy.out (by rw [HP.out]; exact HX.out), hh]
        simp)
      have hle := zonF_le conv ps x h0 h1 h2 k
      clear hh HZy hHX
      generalize (zonF conv ps x h0 h1 h2 k).length = m at HZ hle hown2
      go_wp2_with (at_builtin; go_loud (refine wpList_append_one _ rfl _ _ _ rfl w0.heap.size 3 _ 8 pelemI u7 m _ rfl _ rfl hown2 rfl (by simp only [maxLen]; omega) (by omega) hsz ?_); intro v1 w4 hown4 hg4; have HO := Lib.hid (And.intro hown4 (HB2.out.grown hg4 hsz fun g hg => (hown2.lt g hg).1)); clear hown4 hg4)
      go_roundw
      case rel =>
        refine ⟨k + 1, by omega, by go_num, ?_, HO.out.2⟩
        rw [HZ.out.1, HZ.out.2, pis_append, pis_one1]
        exact HO.out.1
      case measure => first | (simp [intOf]; done) | (simp [intOf]; omega)
    · have HZ := Lib.hid (show zonF conv ps x h0 h1 h2 (k + 1) = zonF conv ps x h0 h1 h2 k by
        rw [HZy.out (by rw [HP.out]; exact HX.out), hh]
        simp)
      have HO := Lib.hid (And.intro hown2 HB2.out)
      clear hh HZy hHX hown2
      go_wp2
      go_roundw
      case rel => exact ⟨k + 1, by omega, by go_num, by rw [HZ.out]; exact HO.out.1, HO.out.2⟩
      case measure => first | (simp [intOf]; done) | (simp [intOf]; omega)
end
end Go.Proofs.Ytbhcemipjfdemaa

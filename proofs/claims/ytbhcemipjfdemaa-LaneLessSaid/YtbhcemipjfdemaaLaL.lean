/-
  Layer 12's laws: the law Less.
-/
import Derived.Test.YtbhcemipjfdemaaLaI
import Derived.Test.YtbhcemipjfdemaaLaK
namespace Go.Proofs.Ytbhcemipjfdemaa
open Go.RowKit Geom Leaf Pol
set_option linter.unusedVariables false

set_option maxRecDepth 100000 in
set_option maxHeartbeats 16000000 in
theorem lalaw_less (conv soft seq size opn : Int) (A : Option Addr) (n cap : Nat) (ps : List Int) (h0 h1 h2 : Int) (x y z : Int) (w : World) (hm : n ≤ maxLen) (hn : ps.length = n) (hr : Rd w w.heap.size A (is ps))  :
    Calls Try.prog 6 #[pgv conv soft seq size opn, ppv A n cap h0 h1 h2, .int .i64 x, .int .i64 y, .int .i64 z] w fun e w' => e = .returned (.bool true) ∧ Below w.heap.size w w' := by
  have H0 := Lib.hid (GP.new w conv soft seq size opn A n cap h0 h1 h2 23 27)
  have HR := Lib.hid fun w' (h : GP w w' conv soft seq size opn A n cap h0 h1 h2) => right12_any conv soft seq size opn A n cap ps h0 h1 h2 w' hm hn (hr.gp h)
  have HRy := Lib.hid fun h => rt_yes (conv := conv) (soft := soft) (seq := seq) (size := size) (opn := opn) (ps := ps) (h0 := h0) (h1 := h1) (h2 := h2) h
  have HN := Lib.hid hn
  have HRd := Lib.hid hr
  generalize rtB conv soft seq size opn ps h0 h1 h2 = rb at HR HRy
  have HCx := Lib.hid fun w => num12_any x w
  have HYx := Lib.hid fun h => num_yes (x := x) h
  generalize numB x = tx at HCx HYx
  have HCz := Lib.hid fun w => num12_any z w
  have HYz := Lib.hid fun h => num_yes (x := z) h
  generalize numB z = tz at HCz HYz
  clear hr hn hm
  go_enter Try.func6, Try.ntmps6
  go_wp2_with fail
  generalize World.alloc _ _ = w0 at H0 ⊢
  refine (awake12_any _).mono ?_
  rintro e w1 ⟨rfl, hb⟩
  have H1 := Lib.hid (GP.below H0.out hb)
  clear H0 hb
  obtain ⟨c0, c1, c2, c3, c4, cl⟩ := id H1.out.1
  obtain ⟨a0, a1, a2, a3, al⟩ := id H1.out.2.1
  go_wp2_with fail
  refine (HR.out _ H1.out).mono ?_
  rintro e w2 ⟨rfl, hb⟩
  have H2 := Lib.hid (GP.below H1.out hb)
  clear H1 hb c0 c1 c2 c3 c4 cl a0 a1 a2 a3 al
  cases rb
  · go_wp2_with fail
    refine (awake12_any _).mono ?_
    rintro e w9 ⟨rfl, hb9⟩
    have H9 := Lib.hid (GP.below H2.out hb9)
    clear hb9
    go_wp2
    go_ret
    exact ⟨rfl, H9.out.2.2⟩
  go_wp2_with fail
  refine (HCx.out w2).mono ?_
  rintro e w3 ⟨rfl, rfl⟩
  cases tx
  · go_wp2_with fail
    refine (awake12_any _).mono ?_
    rintro e w9 ⟨rfl, hb9⟩
    have H9 := Lib.hid (GP.below H2.out hb9)
    clear hb9
    go_wp2
    go_ret
    exact ⟨rfl, H9.out.2.2⟩
  go_wp2_with fail
  refine (HCz.out w2).mono ?_
  rintro e w3 ⟨rfl, rfl⟩
  cases tz
  · go_wp2_with fail
    refine (awake12_any _).mono ?_
    rintro e w9 ⟨rfl, hb9⟩
    have H9 := Lib.hid (GP.below H2.out hb9)
    clear hb9
    go_wp2
    go_ret
    exact ⟨rfl, H9.out.2.2⟩
  obtain ⟨hok, hs12, hz24, hRt⟩ := HRy.out (by first | trivial | rfl)
  have HS := Lib.hid hok.some
  have hn64 : n ≤ 64 := by have h := Ri.len hRt; have := HN.out; simp only at h; omega
  have HM := Lib.hid hn64
  have HRt := Lib.hid hRt
  have HSz := Lib.hid (And.intro hs12 hz24)
  clear hok hRt hs12 hz24 hn64
  obtain ⟨a, rfl, ha⟩ := HYx.out (by first | trivial | rfl)
  obtain ⟨b, rfl, hb⟩ := HYz.out (by first | trivial | rfl)
  by_cases hy0 : y < 0
  · have d0 : decide (y < 0) = true := decide_eq_true hy0
    clear hy0
    go_wp2_with fail
    refine (awake12_any _).mono ?_
    rintro e w9 ⟨rfl, hb9⟩
    have H9 := Lib.hid (GP.below H2.out hb9)
    clear hb9
    go_wp2
    go_ret
    exact ⟨rfl, H9.out.2.2⟩
  have d0 : decide (y < 0) = false := decide_eq_false hy0
  by_cases hyx : (a : Int) < y
  · have d1 : decide ((a : Int) < y) = true := decide_eq_true hyx
    clear hyx hy0
    go_wp2_with fail
    refine (awake12_any _).mono ?_
    rintro e w9 ⟨rfl, hb9⟩
    have H9 := Lib.hid (GP.below H2.out hb9)
    clear hb9
    go_wp2
    go_ret
    exact ⟨rfl, H9.out.2.2⟩
  have d1 : decide ((a : Int) < y) = false := decide_eq_false hyx
  obtain ⟨c, rfl⟩ : ∃ c : Nat, y = c := ⟨y.toNat, by omega⟩
  have hca : c ≤ a := by omega
  have d2 : decide (a < c) = false := decide_eq_false (by omega)
  have HF1 := Lib.hid fun w' (h : Rd w' w'.heap.size A (is ps)) => lfits_any conv soft seq size opn A n cap ⟨ps, h0, h1, h2⟩ a b w' HM.out HN.out HS.out HRt.out (by omega) (by omega) h
  have HF2 := Lib.hid fun w' (h : Rd w' w'.heap.size A (is ps)) => lfits_any conv soft seq size opn A n cap ⟨ps, h0, h1, h2⟩ c b w' HM.out HN.out HS.out HRt.out (by omega) (by omega) h
  have HFG := Lib.hid fun h => fits_less HS.out HRt.out (b := b) hca h
  generalize fitsB conv size ⟨ps, h0, h1, h2⟩ a b = fv at *
  generalize fitsB conv size ⟨ps, h0, h1, h2⟩ c b = gv at *
  clear ha hb hca hy0 hyx
  obtain ⟨c0, c1, c2, c3, c4, cl⟩ := id H2.out.1
  obtain ⟨a0, a1, a2, a3, al⟩ := id H2.out.2.1
  go_wp2_with fail
  refine (HF1.out _ (Rd.gp HRd.out H2.out)).mono ?_
  rintro e w4 ⟨rfl, hb⟩
  have H4 := Lib.hid (GP.below H2.out hb)
  clear hb c0 c1 c2 c3 c4 cl a0 a1 a2 a3 al
  cases fv
  · go_wp2
    go_ret
    exact ⟨rfl, H4.out.2.2⟩
  obtain rfl : gv = true := HFG.out (by first | trivial | rfl)
  obtain ⟨c0, c1, c2, c3, c4, cl⟩ := id H4.out.1
  obtain ⟨a0, a1, a2, a3, al⟩ := id H4.out.2.1
  go_wp2_with fail
  refine (HF2.out _ (Rd.gp HRd.out H4.out)).mono ?_
  rintro e w5 ⟨rfl, hb⟩
  have H5 := Lib.hid (GP.below H4.out hb)
  clear hb c0 c1 c2 c3 c4 cl a0 a1 a2 a3 al
  go_wp2
  go_ret
  exact ⟨rfl, H5.out.2.2⟩
end Go.Proofs.Ytbhcemipjfdemaa

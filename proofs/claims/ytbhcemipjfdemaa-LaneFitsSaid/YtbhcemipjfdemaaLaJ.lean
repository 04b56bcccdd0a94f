/-
  Layer 12's laws: the law Fits.
-/
import Derived.Test.YtbhcemipjfdemaaLaI
namespace Go.Proofs.Ytbhcemipjfdemaa
open Go.RowKit Geom Leaf Pol
set_option linter.unusedVariables false

set_option maxRecDepth 100000 in
set_option maxHeartbeats 16000000 in
theorem lalaw_fits (conv soft seq size opn : Int) (A : Option Addr) (n cap : Nat) (ps : List Int) (h0 h1 h2 : Int) (x y z : Int) (w : World) (hm : n ≤ maxLen) (hn : ps.length = n) (hr : Rd w w.heap.size A (is ps))  :
    Calls Try.prog 4 #[pgv conv soft seq size opn, ppv A n cap h0 h1 h2, .int .i64 x, .int .i64 y, .int .i64 z] w fun e w' => e = .returned (.bool true) ∧ Below w.heap.size w w' := by
  have H0 := Lib.hid (GP.new w conv soft seq size opn A n cap h0 h1 h2 23 27)
  have HR := Lib.hid fun w' (h : GP w w' conv soft seq size opn A n cap h0 h1 h2) => right12_any conv soft seq size opn A n cap ps h0 h1 h2 w' hm hn (hr.gp h)
  have HRy := Lib.hid fun h => rt_yes (conv := conv) (soft := soft) (seq := seq) (size := size) (opn := opn) (ps := ps) (h0 := h0) (h1 := h1) (h2 := h2) h
  have HN := Lib.hid hn
  have HRd := Lib.hid hr
  generalize rtB conv soft seq size opn ps h0 h1 h2 = rb at HR HRy
  have HCx := Lib.hid fun w => num12_any x w
  have HYx := Lib.hid fun h => num_yes (x := x) h
  generalize numB x = tx at HCx HYx
  have HCy := Lib.hid fun w => num12_any y w
  have HYy := Lib.hid fun h => num_yes (x := y) h
  generalize numB y = ty at HCy HYy
  have HCz := Lib.hid fun w => num12_any z w
  have HYz := Lib.hid fun h => num_yes (x := z) h
  generalize numB z = tz at HCz HYz
  clear hr hn hm
  go_enter Try.func4, Try.ntmps4
  go_wp2_with fail
  generalize World.alloc _ _ = w0 at H0 ⊢
  refine (awake12_any _).mono ?_
  rintro e w1 ⟨rfl, hb⟩
  have H1 := Lib.hid (GP.below H0.out hb)
  clear H0 hb
  obtain ⟨c0, c1, c2, c3, c4, cl⟩ := id H1.out.1
  obtain ⟨a0, a1, a2, a3, al⟩ := id H1.out.2.1
  go_wp2_with fail
  refine (HR.out _ H1.out).mono ?_
  rintro e w2 ⟨rfl, hb⟩
  have H2 := Lib.hid (GP.below H1.out hb)
  clear H1 hb c0 c1 c2 c3 c4 cl a0 a1 a2 a3 al
  cases rb
  · go_wp2_with fail
    refine (awake12_any _).mono ?_
    rintro e w9 ⟨rfl, hb9⟩
    have H9 := Lib.hid (GP.below H2.out hb9)
    clear hb9
    go_wp2
    go_ret
    exact ⟨rfl, H9.out.2.2⟩
  go_wp2_with fail
  refine (HCx.out w2).mono ?_
  rintro e w3 ⟨rfl, rfl⟩
  cases tx
  · go_wp2_with fail
    refine (awake12_any _).mono ?_
    rintro e w9 ⟨rfl, hb9⟩
    have H9 := Lib.hid (GP.below H2.out hb9)
    clear hb9
    go_wp2
    go_ret
    exact ⟨rfl, H9.out.2.2⟩
  go_wp2_with fail
  refine (HCy.out w2).mono ?_
  rintro e w3 ⟨rfl, rfl⟩
  cases ty
  · go_wp2_with fail
    refine (awake12_any _).mono ?_
    rintro e w9 ⟨rfl, hb9⟩
    have H9 := Lib.hid (GP.below H2.out hb9)
    clear hb9
    go_wp2
    go_ret
    exact ⟨rfl, H9.out.2.2⟩
  go_wp2_with fail
  refine (HCz.out w2).mono ?_
  rintro e w3 ⟨rfl, rfl⟩
  cases tz
  · go_wp2_with fail
    refine (awake12_any _).mono ?_
    rintro e w9 ⟨rfl, hb9⟩
    have H9 := Lib.hid (GP.below H2.out hb9)
    clear hb9
    go_wp2
    go_ret
    exact ⟨rfl, H9.out.2.2⟩
  obtain ⟨hok, hs12, hz24, hRt⟩ := HRy.out (by first | trivial | rfl)
  have HS := Lib.hid hok.some
  have hn64 : n ≤ 64 := by have h := Ri.len hRt; have := HN.out; simp only at h; omega
  have HM := Lib.hid hn64
  have HRt := Lib.hid hRt
  have HSz := Lib.hid (And.intro hs12 hz24)
  clear hok hRt hs12 hz24 hn64
  obtain ⟨a, rfl, ha⟩ := HYx.out (by first | trivial | rfl)
  obtain ⟨b, rfl, hb⟩ := HYy.out (by first | trivial | rfl)
  obtain ⟨l, rfl, hl⟩ := HYz.out (by first | trivial | rfl)
  have HFi := Lib.hid fun w' (h : Rd w' w'.heap.size A (is ps)) => lfits_any conv soft seq size opn A n cap ⟨ps, h0, h1, h2⟩ a b w' HM.out HN.out HS.out HRt.out (by omega) (by omega) h
  have HFr := Lib.hid fun w' (h : Rd w' w'.heap.size A (is ps)) => rlfits_any conv soft seq size opn A n cap ⟨ps, h0, h1, h2⟩ a b w' HM.out HN.out HS.out HRt.out (by omega) (by omega) h
  have HMo := Lib.hid fun w' (h : Rd w' w'.heap.size A (is ps)) => lmoves_any conv soft seq size opn A n cap ⟨ps, h0, h1, h2⟩ l w' HM.out HN.out HS.out HRt.out (by omega) h
  have HMr := Lib.hid fun w' (h : Rd w' w'.heap.size A (is ps)) => rlmoves_any conv soft seq size opn A n cap ⟨ps, h0, h1, h2⟩ l w' HM.out HN.out HS.out HRt.out (by omega) h
  generalize fitsB conv size ⟨ps, h0, h1, h2⟩ a b = fv at *
  generalize movesB conv size ⟨ps, h0, h1, h2⟩ l = mv at *
  have hq1 : (fv == fv) = true := beq_self_eq_true _
  have hq2 : (mv == mv) = true := beq_self_eq_true _
  clear ha hb hl
  obtain ⟨c0, c1, c2, c3, c4, cl⟩ := id H2.out.1
  obtain ⟨a0, a1, a2, a3, al⟩ := id H2.out.2.1
  go_wp2_with fail
  have RD := Lib.hid fun w' (h : Below w2.heap.size w2 w') => Rd.gp HRd.out (GP.below H2.out h)
  have SO := Lib.hid fun w' (h : Below w2.heap.size w2 w') => (fun (g : GP w w' conv soft seq size opn A n cap h0 h1 h2) => (⟨g.1.1, g.1.2.1, g.1.2.2.1, g.1.2.2.2.1, g.1.2.2.2.2.1, g.2.1.1, g.2.1.2.1, g.2.1.2.2.1, g.2.1.2.2.2.1⟩ :
    w'.cell? ⟨w.heap.size, 0, none⟩ = some (.int .i64 conv) ∧ w'.cell? ⟨w.heap.size, 1, none⟩ = some (.int .i64 soft) ∧ w'.cell? ⟨w.heap.size, 2, none⟩ = some (.int .i64 seq) ∧ w'.cell? ⟨w.heap.size, 3, none⟩ = some (.int .i64 size) ∧ w'.cell? ⟨w.heap.size, 4, none⟩ = some (.int .i64 opn) ∧ w'.cell? ⟨w.heap.size + 1, 0, none⟩ = some (.slice A n cap) ∧ w'.cell? ⟨w.heap.size + 1, 1, none⟩ = some (.int .i64 h0) ∧ w'.cell? ⟨w.heap.size + 1, 2, none⟩ = some (.int .i64 h1) ∧ w'.cell? ⟨w.heap.size + 1, 3, none⟩ = some (.int .i64 h2))) (GP.below H2.out h)
  go_region_held3 (fun w' => w'.cell? ⟨w.heap.size, 0, none⟩ = some (.int .i64 conv) ∧ w'.cell? ⟨w.heap.size, 1, none⟩ = some (.int .i64 soft) ∧ w'.cell? ⟨w.heap.size, 2, none⟩ = some (.int .i64 seq) ∧ w'.cell? ⟨w.heap.size, 3, none⟩ = some (.int .i64 size) ∧ w'.cell? ⟨w.heap.size, 4, none⟩ = some (.int .i64 opn) ∧ w'.cell? ⟨w.heap.size + 1, 0, none⟩ = some (.slice A n cap) ∧ w'.cell? ⟨w.heap.size + 1, 1, none⟩ = some (.int .i64 h0) ∧ w'.cell? ⟨w.heap.size + 1, 2, none⟩ = some (.int .i64 h1) ∧ w'.cell? ⟨w.heap.size + 1, 3, none⟩ = some (.int .i64 h2))
    (first | exact SO.out _ B4 | exact SO.out _ B3 | exact SO.out _ B2 | exact SO.out _ B1 | exact SO.out _ (Below.refl _ _).drew)
    ((first
      | ((with_reducible refine (HFi.out _ (RD.out _ ((Below.refl _ _).drew))).mono ?_); rintro e y1 ⟨rfl, b1⟩; have B1 : Below w2.heap.size w2 y1 := bthen ((Below.refl _ _).drew) b1)
      | ((with_reducible refine (HFr.out _ (RD.out _ (B1))).mono ?_); rintro e y2 ⟨rfl, b2⟩; have B2 : Below w2.heap.size w2 y2 := bthen (B1) b2)
      | ((with_reducible refine (HMo.out _ (RD.out _ (B2))).mono ?_); rintro e y3 ⟨rfl, b3⟩; have B3 : Below w2.heap.size w2 y3 := bthen (B2) b3)
      | ((with_reducible refine (HMr.out _ (RD.out _ (B3))).mono ?_); rintro e y4 ⟨rfl, b4⟩; have B4 : Below w2.heap.size w2 y4 := bthen (B3) b4)
      | fail))
  have HF := Lib.hid (bthen H2.out.2.2 B4)
  go_wp2
  go_ret
  exact ⟨rfl, HF.out⟩
end Go.Proofs.Ytbhcemipjfdemaa

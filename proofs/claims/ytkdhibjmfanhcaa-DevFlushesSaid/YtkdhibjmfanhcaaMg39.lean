/-
  ZoneZ
-/
import Derived.Test.YtkdhibjmfanhcaaMg38
/-
  The walks of the document's answer for what is asked of a zone that there is.
-/
namespace Go.Proofs.Ytkdhibjmfanhcaa
open Go.RowKit Geom Zone
set_option linter.unusedVariables false

section
variable (conv soft seq size opn off : Int) (j : Nat) (A : Option Addr) (n cap : Nat) (L : List Z) (w : World) (hm : n ≤ 1000) (hn : L.length = n) (hok : Ok conv soft seq size opn) (hfit : Fit conv seq size opn L) (hns : (n : Int) = conv + seq) (hj : j < n) (hr : Rd w w.heap.size A (zc L)) (s p : Int) (hz : L[j]? = some (s, p))

include hm hn hok hfit hns hj hr hz in
set_option maxRecDepth 100000 in
set_option maxHeartbeats 2000000 in
theorem ract_open_no (hc : conv ≤ (j : Int)) (h1 : s = 3) :
    Calls Try.prog 28 #[.agg #[.int .i64 conv, .int .i64 soft, .int .i64 seq, .int .i64 size, .int .i64 opn], .slice A n cap, .int .i64 4, .agg #[.int .i64 j, .int .i64 off]] w fun e w' => GivesR A w w' e n (act conv soft seq size opn L 4 j off) := by
  have H0 := Lib.hid (Two.new w conv soft seq size opn (j : Int) off 23 40)
  have hsm := hok.some
  obtain ⟨q1, q2, q3, q4, q5⟩ := id hsm
  have hh : hasB conv seq (j : Int) = true := has_yes ⟨by omega, by omega⟩
  rw [show act conv soft seq size opn L 4 j off = (L, 3) from act_err_at (by decide) (by decide) hh (fun h => absurd h (by decide)) hz (by show openZ _ (s, p) = _; exact if_pos (.inr h1))]
  have HS := Lib.hid fun w => rsectors_any conv soft seq size opn (j : Int) w hsm
  have HWi := Lib.hid fun s' p' w' (h : Rd w' w'.heap.size A (zc L)) => rwith_any A n cap L j s' p' w' hm hn hj h
  have HOp := Lib.hid fun w' (h : Rd w' w'.heap.size A (zc L)) q => (ropened_any A n cap L (w'.drewN q) (by simp only [maxLen]; omega) hn w'.heap.size (h.drewN q)).mono fun e w2 (hp : e = .returned (.int .i64 (cnt L)) ∧ w'.drewN q = w2) => (⟨hp.1, hp.2.symm⟩ : e = .returned (.int .i64 (cnt L)) ∧ w2 = w'.drewN q)
  have HR := Lib.hid fun w' (h : Two w w' conv soft seq size opn (j : Int) off) => (hr.one h.one).zone hz
  have HR1 := Lib.hid fun w' (h : Two w w' conv soft seq size opn (j : Int) off) => hr.one h.one
  have hjI : (j : Int) < (n : Int) := by omega
  have HNS := Lib.hid hns
  have _hf := hfit.1
  clear _hf
  have hs : sectors conv soft seq size (j : Int) = size := by unfold sectors; rw [if_neg (by omega), if_neg (by omega)]
  rw [hs] at HS
  have hsz : (size == 0) = false := by simp; omega
  have hsf : decide ((j : Int) < conv) = false := decide_eq_false (by omega)
  subst h1
  clear hok hsm hfit hns hr hz hh hn
  go_enter Try.func28, Try.ntmps28
  go_wp2_with fail
  generalize World.alloc _ _ = w0 at H0 ⊢
  refine (HS.out _).mono ?_
  rintro e w1 ⟨rfl, hb⟩
  have H1 := Lib.hid (Two.below H0.out hb)
  have R1 := Lib.hid (HR1.out _ H1.out)
  obtain ⟨ad, rfl, _, e0, e1⟩ := HR.out _ H1.out
  obtain ⟨c0, c1, c2, c3, c4, d0, d1, hlt, hbb⟩ := id H1.out
  have hlt0 : w.heap.size < w1.heap.size := by omega
  have RA := Lib.hid fun o => (R1.out.alloc (Nat.le_refl _) o).more (show w1.heap.size ≤ (w1.alloc o).heap.size by simp)
  have HB := Lib.hid fun o => hbb.alloc hbb.size o
  clear H0 hb HR HR1
  go_wp2
  go_ret2
  exact ⟨_, cap, rfl, RA.out _, HB.out _, .inl rfl⟩

include hm hn hok hfit hns hj hr hz in
set_option maxRecDepth 100000 in
set_option maxHeartbeats 2000000 in
theorem ract_open_1 (hc : conv ≤ (j : Int)) (h1 : s = 1) :
    Calls Try.prog 28 #[.agg #[.int .i64 conv, .int .i64 soft, .int .i64 seq, .int .i64 size, .int .i64 opn], .slice A n cap, .int .i64 4, .agg #[.int .i64 j, .int .i64 off]] w fun e w' => GivesR A w w' e n (act conv soft seq size opn L 4 j off) := by
  have H0 := Lib.hid (Two.new w conv soft seq size opn (j : Int) off 23 40)
  have hsm := hok.some
  obtain ⟨q1, q2, q3, q4, q5⟩ := id hsm
  have hh : hasB conv seq (j : Int) = true := has_yes ⟨by omega, by omega⟩
  rw [show act conv soft seq size opn L 4 j off = (L.set j (1, p), 0) from act_at (by decide) (by decide) hh (fun h => absurd h (by decide)) hz (by subst h1; rfl)]
  have HS := Lib.hid fun w => rsectors_any conv soft seq size opn (j : Int) w hsm
  have HWi := Lib.hid fun s' p' w' (h : Rd w' w'.heap.size A (zc L)) => rwith_any A n cap L j s' p' w' hm hn hj h
  have HOp := Lib.hid fun w' (h : Rd w' w'.heap.size A (zc L)) q => (ropened_any A n cap L (w'.drewN q) (by simp only [maxLen]; omega) hn w'.heap.size (h.drewN q)).mono fun e w2 (hp : e = .returned (.int .i64 (cnt L)) ∧ w'.drewN q = w2) => (⟨hp.1, hp.2.symm⟩ : e = .returned (.int .i64 (cnt L)) ∧ w2 = w'.drewN q)
  have HR := Lib.hid fun w' (h : Two w w' conv soft seq size opn (j : Int) off) => (hr.one h.one).zone hz
  have HR1 := Lib.hid fun w' (h : Two w w' conv soft seq size opn (j : Int) off) => hr.one h.one
  have hjI : (j : Int) < (n : Int) := by omega
  have HNS := Lib.hid hns
  have _hf := hfit.1
  clear _hf
  have hs : sectors conv soft seq size (j : Int) = size := by unfold sectors; rw [if_neg (by omega), if_neg (by omega)]
  rw [hs] at HS
  have hsz : (size == 0) = false := by simp; omega
  have hsf : decide ((j : Int) < conv) = false := decide_eq_false (by omega)
  subst h1
  clear hok hsm hfit hns hr hz hh hn
  go_enter Try.func28, Try.ntmps28
  go_wp2_with fail
  generalize World.alloc _ _ = w0 at H0 ⊢
  refine (HS.out _).mono ?_
  rintro e w1 ⟨rfl, hb⟩
  have H1 := Lib.hid (Two.below H0.out hb)
  have R1 := Lib.hid (HR1.out _ H1.out)
  obtain ⟨ad, rfl, _, e0, e1⟩ := HR.out _ H1.out
  obtain ⟨c0, c1, c2, c3, c4, d0, d1, hlt, hbb⟩ := id H1.out
  have hlt0 : w.heap.size < w1.heap.size := by omega
  have RA := Lib.hid fun o => (R1.out.alloc (Nat.le_refl _) o).more (show w1.heap.size ≤ (w1.alloc o).heap.size by simp)
  have HB := Lib.hid fun o => hbb.alloc hbb.size o
  clear H0 hb HR HR1
  go_wp2_with fail
  have z0 := (new_cells w1 (.int .i64 1) (.int .i64 p) 53 (0, 0)).1
  have z1 := (new_cells w1 (.int .i64 1) (.int .i64 p) 53 (0, 0)).2
  have zf := new_frozen w1 (.int .i64 1) (.int .i64 p) 53
  have H2 := Lib.hid (H1.out.below ((Below.refl w1.heap.size w1).alloc (Nat.le_refl _) (.cells #[.int .i64 1, .int .i64 p] 53)))
  have B2 := Lib.hid ((Below.refl w1.heap.size w1).alloc (Nat.le_refl _) (.cells #[.int .i64 1, .int .i64 p] 53))
  have R2 := Lib.hid (RA.out (.cells #[.int .i64 1, .int .i64 p] 53))
  clear c0 c1 c2 c3 c4 d0 d1 hlt hlt0 hbb e0 e1 RA HB
  generalize World.alloc w1 _ = w2 at z0 z1 zf H2 B2 R2 ⊢
  obtain ⟨c0, c1, c2, c3, c4, d0, d1, hlt, hbb⟩ := id H2.out
  have HO2 := Lib.hid fun q => HOp.out w2 R2.out q
  clear HOp
  go_quiet ((go_at_call 45; exact Calls.quiet_of_same (HO2.out _)))
  have z0' : (w2.drewN nq).cell? ⟨w1.heap.size, 0, none⟩ = some (.int .i64 1) := z0
  have z1' : (w2.drewN nq).cell? ⟨w1.heap.size, 1, none⟩ = some (.int .i64 p) := z1
  have zf' : ∀ i, (w2.drewN nq).frozen? ⟨w1.heap.size, i, none⟩ = false := zf
  have c0' : (w2.drewN nq).cell? ⟨w.heap.size, 0, none⟩ = some (.int .i64 conv) := c0
  have c2' : (w2.drewN nq).cell? ⟨w.heap.size, 2, none⟩ = some (.int .i64 seq) := c2
  have c3' : (w2.drewN nq).cell? ⟨w.heap.size, 3, none⟩ = some (.int .i64 size) := c3
  have c4' : (w2.drewN nq).cell? ⟨w.heap.size, 4, none⟩ = some (.int .i64 opn) := c4
  have d0' : (w2.drewN nq).cell? ⟨w.heap.size + 1, 0, none⟩ = some (.int .i64 j) := d0
  have d1' : (w2.drewN nq).cell? ⟨w.heap.size + 1, 1, none⟩ = some (.int .i64 off) := d1
  have B3 := below_draws B2.out nq
  clear z0 z1 zf c0 c1 c2 c3 c4 d0 d1 hbb
  generalize w2.drewN nq = w3 at z0' z1' zf' c0' c2' c3' c4' d0' d1' B3 ⊢
  have hne : w1.heap.size ≠ w.heap.size := by have := H1.out.2.2.2.2.2.2.2.1; omega
  have hne2 : w1.heap.size ≠ w.heap.size + 1 := by have := H1.out.2.2.2.2.2.2.2.1; omega
  have B3 := Lib.hid B3
  have s0_0 := set_at z0' (.int .i64 (1))
  have s0_1 := set_off z1' (.int .i64 (1)) (show (⟨w1.heap.size, 0, none⟩ : Addr) ≠ ⟨w1.heap.size, 1, none⟩ by simp)
  clear s0_1
  have BW := Lib.hid ((B3.out.setCell (p := ⟨w1.heap.size, 0, none⟩) (Nat.le_refl _) (.int .i64 (1))))
  have RW := Lib.hid ((R1.out.below BW.out).more BW.out.size)
  have HBW := Lib.hid (bthen H1.out.one.2 BW.out)
  go_wp2_with fail
  refine (HWi.out _ _ _ RW.out).mono ?_
  rintro e w4 ⟨g, c, rfl, hown, hb⟩
  have RX := Lib.hid (Rd.own hown)
  have PW := Lib.hid (prov_own hown HBW.out.size)
  have BX := Lib.hid (bthen HBW.out hb)
  clear hown hb
  go_wp2
  go_ret2
  exact ⟨_, c, rfl, RX.out, BX.out, .inr PW.out⟩

include hm hn hok hfit hns hj hr hz in
set_option maxRecDepth 100000 in
set_option maxHeartbeats 2000000 in
theorem ract_open_full (hc : conv ≤ (j : Int)) (h1 : ¬ s = 3) (h2 : ¬ s = 1) (h3 : opn ≤ (cnt L : Int)) :
    Calls Try.prog 28 #[.agg #[.int .i64 conv, .int .i64 soft, .int .i64 seq, .int .i64 size, .int .i64 opn], .slice A n cap, .int .i64 4, .agg #[.int .i64 j, .int .i64 off]] w fun e w' => GivesR A w w' e n (act conv soft seq size opn L 4 j off) := by
  have H0 := Lib.hid (Two.new w conv soft seq size opn (j : Int) off 23 40)
  have hsm := hok.some
  obtain ⟨q1, q2, q3, q4, q5⟩ := id hsm
  have hh : hasB conv seq (j : Int) = true := has_yes ⟨by omega, by omega⟩
  rw [show act conv soft seq size opn L 4 j off = (L, 5) from act_err_at (by decide) (by decide) hh (fun h => absurd h (by decide)) hz (by have := fit_at hfit hz; unfold fitZ at this; dsimp only at this; show openZ _ (s, p) = _; unfold openZ; rw [if_neg (by first | omega | (dsimp only; omega)), if_neg h2, if_neg (by simp; omega)])]
  have HS := Lib.hid fun w => rsectors_any conv soft seq size opn (j : Int) w hsm
  have HWi := Lib.hid fun s' p' w' (h : Rd w' w'.heap.size A (zc L)) => rwith_any A n cap L j s' p' w' hm hn hj h
  have HOp := Lib.hid fun w' (h : Rd w' w'.heap.size A (zc L)) q => (ropened_any A n cap L (w'.drewN q) (by simp only [maxLen]; omega) hn w'.heap.size (h.drewN q)).mono fun e w2 (hp : e = .returned (.int .i64 (cnt L)) ∧ w'.drewN q = w2) => (⟨hp.1, hp.2.symm⟩ : e = .returned (.int .i64 (cnt L)) ∧ w2 = w'.drewN q)
  have HR := Lib.hid fun w' (h : Two w w' conv soft seq size opn (j : Int) off) => (hr.one h.one).zone hz
  have HR1 := Lib.hid fun w' (h : Two w w' conv soft seq size opn (j : Int) off) => hr.one h.one
  have hjI : (j : Int) < (n : Int) := by omega
  have HNS := Lib.hid hns
  have _hf := hfit.1
  clear _hf
  have hs : sectors conv soft seq size (j : Int) = size := by unfold sectors; rw [if_neg (by omega), if_neg (by omega)]
  rw [hs] at HS
  have hsz : (size == 0) = false := by simp; omega
  have hsf : decide ((j : Int) < conv) = false := decide_eq_false (by omega)
  have hd : (s == 3) = false := by simpa using h1
  have hd2 : (s != 1) = true := by simpa using h2
  clear hok hsm hfit hns hr hz hh hn
  go_enter Try.func28, Try.ntmps28
  go_wp2_with fail
  generalize World.alloc _ _ = w0 at H0 ⊢
  refine (HS.out _).mono ?_
  rintro e w1 ⟨rfl, hb⟩
  have H1 := Lib.hid (Two.below H0.out hb)
  have R1 := Lib.hid (HR1.out _ H1.out)
  obtain ⟨ad, rfl, _, e0, e1⟩ := HR.out _ H1.out
  obtain ⟨c0, c1, c2, c3, c4, d0, d1, hlt, hbb⟩ := id H1.out
  have hlt0 : w.heap.size < w1.heap.size := by omega
  have RA := Lib.hid fun o => (R1.out.alloc (Nat.le_refl _) o).more (show w1.heap.size ≤ (w1.alloc o).heap.size by simp)
  have HB := Lib.hid fun o => hbb.alloc hbb.size o
  clear H0 hb HR HR1
  go_wp2_with fail
  have z0 := (new_cells w1 (.int .i64 s) (.int .i64 p) 53 (0, 0)).1
  have z1 := (new_cells w1 (.int .i64 s) (.int .i64 p) 53 (0, 0)).2
  have zf := new_frozen w1 (.int .i64 s) (.int .i64 p) 53
  have H2 := Lib.hid (H1.out.below ((Below.refl w1.heap.size w1).alloc (Nat.le_refl _) (.cells #[.int .i64 s, .int .i64 p] 53)))
  have B2 := Lib.hid ((Below.refl w1.heap.size w1).alloc (Nat.le_refl _) (.cells #[.int .i64 s, .int .i64 p] 53))
  have R2 := Lib.hid (RA.out (.cells #[.int .i64 s, .int .i64 p] 53))
  clear c0 c1 c2 c3 c4 d0 d1 hlt hlt0 hbb e0 e1 RA HB
  generalize World.alloc w1 _ = w2 at z0 z1 zf H2 B2 R2 ⊢
  obtain ⟨c0, c1, c2, c3, c4, d0, d1, hlt, hbb⟩ := id H2.out
  have HO2 := Lib.hid fun q => HOp.out w2 R2.out q
  clear HOp
  go_quiet ((go_at_call 45; exact Calls.quiet_of_same (HO2.out _)))
  have z0' : (w2.drewN nq).cell? ⟨w1.heap.size, 0, none⟩ = some (.int .i64 s) := z0
  have z1' : (w2.drewN nq).cell? ⟨w1.heap.size, 1, none⟩ = some (.int .i64 p) := z1
  have zf' : ∀ i, (w2.drewN nq).frozen? ⟨w1.heap.size, i, none⟩ = false := zf
  have c0' : (w2.drewN nq).cell? ⟨w.heap.size, 0, none⟩ = some (.int .i64 conv) := c0
  have c2' : (w2.drewN nq).cell? ⟨w.heap.size, 2, none⟩ = some (.int .i64 seq) := c2
  have c3' : (w2.drewN nq).cell? ⟨w.heap.size, 3, none⟩ = some (.int .i64 size) := c3
  have c4' : (w2.drewN nq).cell? ⟨w.heap.size, 4, none⟩ = some (.int .i64 opn) := c4
  have d0' : (w2.drewN nq).cell? ⟨w.heap.size + 1, 0, none⟩ = some (.int .i64 j) := d0
  have d1' : (w2.drewN nq).cell? ⟨w.heap.size + 1, 1, none⟩ = some (.int .i64 off) := d1
  have B3 := below_draws B2.out nq
  clear z0 z1 zf c0 c1 c2 c3 c4 d0 d1 hbb
  generalize w2.drewN nq = w3 at z0' z1' zf' c0' c2' c3' c4' d0' d1' B3 ⊢
  have hne : w1.heap.size ≠ w.heap.size := by have := H1.out.2.2.2.2.2.2.2.1; omega
  have hne2 : w1.heap.size ≠ w.heap.size + 1 := by have := H1.out.2.2.2.2.2.2.2.1; omega
  have B3 := Lib.hid B3
  have R4 := Lib.hid ((R1.out.below B3.out).more B3.out.size)
  have B4 := Lib.hid (bthen H1.out.one.2 B3.out)
  go_wp2
  go_ret2
  exact ⟨_, cap, rfl, R4.out, B4.out, .inl rfl⟩

include hm hn hok hfit hns hj hr hz in
set_option maxRecDepth 100000 in
set_option maxHeartbeats 2000000 in
theorem ract_open_go (hc : conv ≤ (j : Int)) (h1 : ¬ s = 3) (h2 : ¬ s = 1) (h3 : ¬ opn ≤ (cnt L : Int)) :
    Calls Try.prog 28 #[.agg #[.int .i64 conv, .int .i64 soft, .int .i64 seq, .int .i64 size, .int .i64 opn], .slice A n cap, .int .i64 4, .agg #[.int .i64 j, .int .i64 off]] w fun e w' => GivesR A w w' e n (act conv soft seq size opn L 4 j off) := by
  have H0 := Lib.hid (Two.new w conv soft seq size opn (j : Int) off 23 40)
  have hsm := hok.some
  obtain ⟨q1, q2, q3, q4, q5⟩ := id hsm
  have hh : hasB conv seq (j : Int) = true := has_yes ⟨by omega, by omega⟩
  rw [show act conv soft seq size opn L 4 j off = (L.set j (1, p), 0) from act_at (by decide) (by decide) hh (fun h => absurd h (by decide)) hz (by have := fit_at hfit hz; unfold fitZ at this; dsimp only at this; show openZ _ (s, p) = _; unfold openZ; rw [if_neg (by first | omega | (dsimp only; omega)), if_neg h2, if_pos (by simp; omega)])]
  have HS := Lib.hid fun w => rsectors_any conv soft seq size opn (j : Int) w hsm
  have HWi := Lib.hid fun s' p' w' (h : Rd w' w'.heap.size A (zc L)) => rwith_any A n cap L j s' p' w' hm hn hj h
  have HOp := Lib.hid fun w' (h : Rd w' w'.heap.size A (zc L)) q => (ropened_any A n cap L (w'.drewN q) (by simp only [maxLen]; omega) hn w'.heap.size (h.drewN q)).mono fun e w2 (hp : e = .returned (.int .i64 (cnt L)) ∧ w'.drewN q = w2) => (⟨hp.1, hp.2.symm⟩ : e = .returned (.int .i64 (cnt L)) ∧ w2 = w'.drewN q)
  have HR := Lib.hid fun w' (h : Two w w' conv soft seq size opn (j : Int) off) => (hr.one h.one).zone hz
  have HR1 := Lib.hid fun w' (h : Two w w' conv soft seq size opn (j : Int) off) => hr.one h.one
  have hjI : (j : Int) < (n : Int) := by omega
  have HNS := Lib.hid hns
  have _hf := hfit.1
  clear _hf
  have hs : sectors conv soft seq size (j : Int) = size := by unfold sectors; rw [if_neg (by omega), if_neg (by omega)]
  rw [hs] at HS
  have hsz : (size == 0) = false := by simp; omega
  have hsf : decide ((j : Int) < conv) = false := decide_eq_false (by omega)
  have hd : (s == 3) = false := by simpa using h1
  have hd2 : (s != 1) = true := by simpa using h2
  have hd3 : decide (opn ≤ (cnt L : Int)) = false := decide_eq_false h3
  clear hok hsm hfit hns hr hz hh hn
  go_enter Try.func28, Try.ntmps28
  go_wp2_with fail
  generalize World.alloc _ _ = w0 at H0 ⊢
  refine (HS.out _).mono ?_
  rintro e w1 ⟨rfl, hb⟩
  have H1 := Lib.hid (Two.below H0.out hb)
  have R1 := Lib.hid (HR1.out _ H1.out)
  obtain ⟨ad, rfl, _, e0, e1⟩ := HR.out _ H1.out
  obtain ⟨c0, c1, c2, c3, c4, d0, d1, hlt, hbb⟩ := id H1.out
  have hlt0 : w.heap.size < w1.heap.size := by omega
  have RA := Lib.hid fun o => (R1.out.alloc (Nat.le_refl _) o).more (show w1.heap.size ≤ (w1.alloc o).heap.size by simp)
  have HB := Lib.hid fun o => hbb.alloc hbb.size o
  clear H0 hb HR HR1
  go_wp2_with fail
  have z0 := (new_cells w1 (.int .i64 s) (.int .i64 p) 53 (0, 0)).1
  have z1 := (new_cells w1 (.int .i64 s) (.int .i64 p) 53 (0, 0)).2
  have zf := new_frozen w1 (.int .i64 s) (.int .i64 p) 53
  have H2 := Lib.hid (H1.out.below ((Below.refl w1.heap.size w1).alloc (Nat.le_refl _) (.cells #[.int .i64 s, .int .i64 p] 53)))
  have B2 := Lib.hid ((Below.refl w1.heap.size w1).alloc (Nat.le_refl _) (.cells #[.int .i64 s, .int .i64 p] 53))
  have R2 := Lib.hid (RA.out (.cells #[.int .i64 s, .int .i64 p] 53))
  clear c0 c1 c2 c3 c4 d0 d1 hlt hlt0 hbb e0 e1 RA HB
  generalize World.alloc w1 _ = w2 at z0 z1 zf H2 B2 R2 ⊢
  obtain ⟨c0, c1, c2, c3, c4, d0, d1, hlt, hbb⟩ := id H2.out
  have HO2 := Lib.hid fun q => HOp.out w2 R2.out q
  clear HOp
  go_quiet ((go_at_call 45; exact Calls.quiet_of_same (HO2.out _)))
  have z0' : (w2.drewN nq).cell? ⟨w1.heap.size, 0, none⟩ = some (.int .i64 s) := z0
  have z1' : (w2.drewN nq).cell? ⟨w1.heap.size, 1, none⟩ = some (.int .i64 p) := z1
  have zf' : ∀ i, (w2.drewN nq).frozen? ⟨w1.heap.size, i, none⟩ = false := zf
  have c0' : (w2.drewN nq).cell? ⟨w.heap.size, 0, none⟩ = some (.int .i64 conv) := c0
  have c2' : (w2.drewN nq).cell? ⟨w.heap.size, 2, none⟩ = some (.int .i64 seq) := c2
  have c3' : (w2.drewN nq).cell? ⟨w.heap.size, 3, none⟩ = some (.int .i64 size) := c3
  have c4' : (w2.drewN nq).cell? ⟨w.heap.size, 4, none⟩ = some (.int .i64 opn) := c4
  have d0' : (w2.drewN nq).cell? ⟨w.heap.size + 1, 0, none⟩ = some (.int .i64 j) := d0
  have d1' : (w2.drewN nq).cell? ⟨w.heap.size + 1, 1, none⟩ = some (.int .i64 off) := d1
  have B3 := below_draws B2.out nq
  clear z0 z1 zf c0 c1 c2 c3 c4 d0 d1 hbb
  generalize w2.drewN nq = w3 at z0' z1' zf' c0' c2' c3' c4' d0' d1' B3 ⊢
  have hne : w1.heap.size ≠ w.heap.size := by have := H1.out.2.2.2.2.2.2.2.1; omega
  have hne2 : w1.heap.size ≠ w.heap.size + 1 := by have := H1.out.2.2.2.2.2.2.2.1; omega
  have B3 := Lib.hid B3
  have s0_0 := set_at z0' (.int .i64 (1))
  have s0_1 := set_off z1' (.int .i64 (1)) (show (⟨w1.heap.size, 0, none⟩ : Addr) ≠ ⟨w1.heap.size, 1, none⟩ by simp)
  clear s0_1
  have BW := Lib.hid ((B3.out.setCell (p := ⟨w1.heap.size, 0, none⟩) (Nat.le_refl _) (.int .i64 (1))))
  have RW := Lib.hid ((R1.out.below BW.out).more BW.out.size)
  have HBW := Lib.hid (bthen H1.out.one.2 BW.out)
  go_wp2_with fail
  refine (HWi.out _ _ _ RW.out).mono ?_
  rintro e w4 ⟨g, c, rfl, hown, hb⟩
  have RX := Lib.hid (Rd.own hown)
  have PW := Lib.hid (prov_own hown HBW.out.size)
  have BX := Lib.hid (bthen HBW.out hb)
  clear hown hb
  go_wp2
  go_ret2
  exact ⟨_, c, rfl, RX.out, BX.out, .inr PW.out⟩

include hm hn hok hfit hns hj hr hz in
set_option maxRecDepth 100000 in
set_option maxHeartbeats 2000000 in
theorem ract_write_full (hc : conv ≤ (j : Int)) (hi : inB conv soft seq size j off = true) (h1 : s = 3) :
    Calls Try.prog 28 #[.agg #[.int .i64 conv, .int .i64 soft, .int .i64 seq, .int .i64 size, .int .i64 opn], .slice A n cap, .int .i64 0, .agg #[.int .i64 j, .int .i64 off]] w fun e w' => GivesR A w w' e n (act conv soft seq size opn L 0 j off) := by
  have H0 := Lib.hid (Two.new w conv soft seq size opn (j : Int) off 23 40)
  have hsm := hok.some
  obtain ⟨q1, q2, q3, q4, q5⟩ := id hsm
  have hh : hasB conv seq (j : Int) = true := has_yes ⟨by omega, by omega⟩
  rw [show act conv soft seq size opn L 0 j off = (L, 3) from act_err_at (by decide) (by decide) hh (fun _ => hi) hz (by have := fit_at hfit hz; unfold fitZ at this; dsimp only at this; show writeZ off size _ (s, p) = _; unfold writeZ; rw [if_neg (by first | omega | (dsimp only; omega)), if_pos h1])]
  have HS := Lib.hid fun w => rsectors_any conv soft seq size opn (j : Int) w hsm
  have HWi := Lib.hid fun s' p' w' (h : Rd w' w'.heap.size A (zc L)) => rwith_any A n cap L j s' p' w' hm hn hj h
  have HOp := Lib.hid fun w' (h : Rd w' w'.heap.size A (zc L)) q => (ropened_any A n cap L (w'.drewN q) (by simp only [maxLen]; omega) hn w'.heap.size (h.drewN q)).mono fun e w2 (hp : e = .returned (.int .i64 (cnt L)) ∧ w'.drewN q = w2) => (⟨hp.1, hp.2.symm⟩ : e = .returned (.int .i64 (cnt L)) ∧ w2 = w'.drewN q)
  have HR := Lib.hid fun w' (h : Two w w' conv soft seq size opn (j : Int) off) => (hr.one h.one).zone hz
  have HR1 := Lib.hid fun w' (h : Two w w' conv soft seq size opn (j : Int) off) => hr.one h.one
  have hjI : (j : Int) < (n : Int) := by omega
  have HNS := Lib.hid hns
  have _hf := hfit.1
  clear _hf
  have hs : sectors conv soft seq size (j : Int) = size := by unfold sectors; rw [if_neg (by omega), if_neg (by omega)]
  rw [hs] at HS
  have hsz : (size == 0) = false := by simp; omega
  have hsf : decide ((j : Int) < conv) = false := decide_eq_false (by omega)
  obtain ⟨o1, o2⟩ := in_in hi
  rw [hs] at o2
  have ho1 : decide (off < 0) = false := decide_eq_false (by omega)
  have ho2 : decide (size ≤ off) = false := decide_eq_false (by omega)
  clear hi
  subst h1
  clear hok hsm hfit hns hr hz hh hn
  go_enter Try.func28, Try.ntmps28
  go_wp2_with fail
  generalize World.alloc _ _ = w0 at H0 ⊢
  refine (HS.out _).mono ?_
  rintro e w1 ⟨rfl, hb⟩
  have H1 := Lib.hid (Two.below H0.out hb)
  have R1 := Lib.hid (HR1.out _ H1.out)
  obtain ⟨ad, rfl, _, e0, e1⟩ := HR.out _ H1.out
  obtain ⟨c0, c1, c2, c3, c4, d0, d1, hlt, hbb⟩ := id H1.out
  have hlt0 : w.heap.size < w1.heap.size := by omega
  have RA := Lib.hid fun o => (R1.out.alloc (Nat.le_refl _) o).more (show w1.heap.size ≤ (w1.alloc o).heap.size by simp)
  have HB := Lib.hid fun o => hbb.alloc hbb.size o
  clear H0 hb HR HR1
  go_wp2
  go_ret2
  exact ⟨_, cap, rfl, RA.out _, HB.out _, .inl rfl⟩

include hm hn hok hfit hns hj hr hz in
set_option maxRecDepth 100000 in
set_option maxHeartbeats 2000000 in
theorem ract_write_far (hc : conv ≤ (j : Int)) (hi : inB conv soft seq size j off = true) (h1 : ¬ s = 3) (h4 : ¬ off = p) :
    Calls Try.prog 28 #[.agg #[.int .i64 conv, .int .i64 soft, .int .i64 seq, .int .i64 size, .int .i64 opn], .slice A n cap, .int .i64 0, .agg #[.int .i64 j, .int .i64 off]] w fun e w' => GivesR A w w' e n (act conv soft seq size opn L 0 j off) := by
  have H0 := Lib.hid (Two.new w conv soft seq size opn (j : Int) off 23 40)
  have hsm := hok.some
  obtain ⟨q1, q2, q3, q4, q5⟩ := id hsm
  have hh : hasB conv seq (j : Int) = true := has_yes ⟨by omega, by omega⟩
  rw [show act conv soft seq size opn L 0 j off = (L, 4) from act_err_at (by decide) (by decide) hh (fun _ => hi) hz (by have := fit_at hfit hz; unfold fitZ at this; dsimp only at this; show writeZ off size _ (s, p) = _; unfold writeZ; rw [if_neg (by first | omega | (dsimp only; omega)), if_neg h1, if_pos h4])]
  have HS := Lib.hid fun w => rsectors_any conv soft seq size opn (j : Int) w hsm
  have HWi := Lib.hid fun s' p' w' (h : Rd w' w'.heap.size A (zc L)) => rwith_any A n cap L j s' p' w' hm hn hj h
  have HOp := Lib.hid fun w' (h : Rd w' w'.heap.size A (zc L)) q => (ropened_any A n cap L (w'.drewN q) (by simp only [maxLen]; omega) hn w'.heap.size (h.drewN q)).mono fun e w2 (hp : e = .returned (.int .i64 (cnt L)) ∧ w'.drewN q = w2) => (⟨hp.1, hp.2.symm⟩ : e = .returned (.int .i64 (cnt L)) ∧ w2 = w'.drewN q)
  have HR := Lib.hid fun w' (h : Two w w' conv soft seq size opn (j : Int) off) => (hr.one h.one).zone hz
  have HR1 := Lib.hid fun w' (h : Two w w' conv soft seq size opn (j : Int) off) => hr.one h.one
  have hjI : (j : Int) < (n : Int) := by omega
  have HNS := Lib.hid hns
  have _hf := hfit.1
  clear _hf
  have hs : sectors conv soft seq size (j : Int) = size := by unfold sectors; rw [if_neg (by omega), if_neg (by omega)]
  rw [hs] at HS
  have hsz : (size == 0) = false := by simp; omega
  have hsf : decide ((j : Int) < conv) = false := decide_eq_false (by omega)
  obtain ⟨o1, o2⟩ := in_in hi
  rw [hs] at o2
  have ho1 : decide (off < 0) = false := decide_eq_false (by omega)
  have ho2 : decide (size ≤ off) = false := decide_eq_false (by omega)
  clear hi
  have hd : (s == 3) = false := by simpa using h1
  have hd4 : (off != p) = true := by simpa using h4
  clear hok hsm hfit hns hr hz hh hn
  go_enter Try.func28, Try.ntmps28
  go_wp2_with fail
  generalize World.alloc _ _ = w0 at H0 ⊢
  refine (HS.out _).mono ?_
  rintro e w1 ⟨rfl, hb⟩
  have H1 := Lib.hid (Two.below H0.out hb)
  have R1 := Lib.hid (HR1.out _ H1.out)
  obtain ⟨ad, rfl, _, e0, e1⟩ := HR.out _ H1.out
  obtain ⟨c0, c1, c2, c3, c4, d0, d1, hlt, hbb⟩ := id H1.out
  have hlt0 : w.heap.size < w1.heap.size := by omega
  have RA := Lib.hid fun o => (R1.out.alloc (Nat.le_refl _) o).more (show w1.heap.size ≤ (w1.alloc o).heap.size by simp)
  have HB := Lib.hid fun o => hbb.alloc hbb.size o
  clear H0 hb HR HR1
  go_wp2
  go_ret2
  exact ⟨_, cap, rfl, RA.out _, HB.out _, .inl rfl⟩

include hm hn hok hfit hns hj hr hz in
set_option maxRecDepth 100000 in
set_option maxHeartbeats 2000000 in
theorem ract_write_many (hc : conv ≤ (j : Int)) (hi : inB conv soft seq size j off = true) (h1 : ¬ s = 3) (h4 : off = p) (h2 : ¬ s = 1) (h3 : opn ≤ (cnt L : Int)) :
    Calls Try.prog 28 #[.agg #[.int .i64 conv, .int .i64 soft, .int .i64 seq, .int .i64 size, .int .i64 opn], .slice A n cap, .int .i64 0, .agg #[.int .i64 j, .int .i64 off]] w fun e w' => GivesR A w w' e n (act conv soft seq size opn L 0 j off) := by
  have H0 := Lib.hid (Two.new w conv soft seq size opn (j : Int) off 23 40)
  have hsm := hok.some
  obtain ⟨q1, q2, q3, q4, q5⟩ := id hsm
  have hh : hasB conv seq (j : Int) = true := has_yes ⟨by omega, by omega⟩
  rw [show act conv soft seq size opn L 0 j off = (L, 5) from act_err_at (by decide) (by decide) hh (fun _ => hi) hz (by have := fit_at hfit hz; unfold fitZ at this; dsimp only at this; show writeZ off size _ (s, p) = _; unfold writeZ; rw [if_neg (by first | omega | (dsimp only; omega)), if_neg h1, if_neg (by simp [h4]), if_neg (by simp; omega)])]
  have HS := Lib.hid fun w => rsectors_any conv soft seq size opn (j : Int) w hsm
  have HWi := Lib.hid fun s' p' w' (h : Rd w' w'.heap.size A (zc L)) => rwith_any A n cap L j s' p' w' hm hn hj h
  have HOp := Lib.hid fun w' (h : Rd w' w'.heap.size A (zc L)) q => (ropened_any A n cap L (w'.drewN q) (by simp only [maxLen]; omega) hn w'.heap.size (h.drewN q)).mono fun e w2 (hp : e = .returned (.int .i64 (cnt L)) ∧ w'.drewN q = w2) => (⟨hp.1, hp.2.symm⟩ : e = .returned (.int .i64 (cnt L)) ∧ w2 = w'.drewN q)
  have HR := Lib.hid fun w' (h : Two w w' conv soft seq size opn (j : Int) off) => (hr.one h.one).zone hz
  have HR1 := Lib.hid fun w' (h : Two w w' conv soft seq size opn (j : Int) off) => hr.one h.one
  have hjI : (j : Int) < (n : Int) := by omega
  have HNS := Lib.hid hns
  have _hf := hfit.1
  clear _hf
  have hs : sectors conv soft seq size (j : Int) = size := by unfold sectors; rw [if_neg (by omega), if_neg (by omega)]
  rw [hs] at HS
  have hsz : (size == 0) = false := by simp; omega
  have hsf : decide ((j : Int) < conv) = false := decide_eq_false (by omega)
  obtain ⟨o1, o2⟩ := in_in hi
  rw [hs] at o2
  have ho1 : decide (off < 0) = false := decide_eq_false (by omega)
  have ho2 : decide (size ≤ off) = false := decide_eq_false (by omega)
  clear hi
  have hd : (s == 3) = false := by simpa using h1
  have hd2 : (s != 1) = true := by simpa using h2
  subst h4
  clear hok hsm hfit hns hr hz hh hn
  go_enter Try.func28, Try.ntmps28
  go_wp2_with fail
  generalize World.alloc _ _ = w0 at H0 ⊢
  refine (HS.out _).mono ?_
  rintro e w1 ⟨rfl, hb⟩
  have H1 := Lib.hid (Two.below H0.out hb)
  have R1 := Lib.hid (HR1.out _ H1.out)
  obtain ⟨ad, rfl, _, e0, e1⟩ := HR.out _ H1.out
  obtain ⟨c0, c1, c2, c3, c4, d0, d1, hlt, hbb⟩ := id H1.out
  have hlt0 : w.heap.size < w1.heap.size := by omega
  have RA := Lib.hid fun o => (R1.out.alloc (Nat.le_refl _) o).more (show w1.heap.size ≤ (w1.alloc o).heap.size by simp)
  have HB := Lib.hid fun o => hbb.alloc hbb.size o
  clear H0 hb HR HR1
  go_wp2_with fail
  have z0 := (new_cells w1 (.int .i64 s) (.int .i64 off) 53 (0, 0)).1
  have z1 := (new_cells w1 (.int .i64 s) (.int .i64 off) 53 (0, 0)).2
  have zf := new_frozen w1 (.int .i64 s) (.int .i64 off) 53
  have H2 := Lib.hid (H1.out.below ((Below.refl w1.heap.size w1).alloc (Nat.le_refl _) (.cells #[.int .i64 s, .int .i64 off] 53)))
  have B2 := Lib.hid ((Below.refl w1.heap.size w1).alloc (Nat.le_refl _) (.cells #[.int .i64 s, .int .i64 off] 53))
  have R2 := Lib.hid (RA.out (.cells #[.int .i64 s, .int .i64 off] 53))
  clear c0 c1 c2 c3 c4 d0 d1 hlt hlt0 hbb e0 e1 RA HB
  generalize World.alloc w1 _ = w2 at z0 z1 zf H2 B2 R2 ⊢
  obtain ⟨c0, c1, c2, c3, c4, d0, d1, hlt, hbb⟩ := id H2.out
  have HO2 := Lib.hid fun q => HOp.out w2 R2.out q
  clear HOp
  go_quiet ((go_at_call 45; exact Calls.quiet_of_same (HO2.out _)))
  have z0' : (w2.drewN nq).cell? ⟨w1.heap.size, 0, none⟩ = some (.int .i64 s) := z0
  have z1' : (w2.drewN nq).cell? ⟨w1.heap.size, 1, none⟩ = some (.int .i64 off) := z1
  have zf' : ∀ i, (w2.drewN nq).frozen? ⟨w1.heap.size, i, none⟩ = false := zf
  have c0' : (w2.drewN nq).cell? ⟨w.heap.size, 0, none⟩ = some (.int .i64 conv) := c0
  have c2' : (w2.drewN nq).cell? ⟨w.heap.size, 2, none⟩ = some (.int .i64 seq) := c2
  have c3' : (w2.drewN nq).cell? ⟨w.heap.size, 3, none⟩ = some (.int .i64 size) := c3
  have c4' : (w2.drewN nq).cell? ⟨w.heap.size, 4, none⟩ = some (.int .i64 opn) := c4
  have d0' : (w2.drewN nq).cell? ⟨w.heap.size + 1, 0, none⟩ = some (.int .i64 j) := d0
  have d1' : (w2.drewN nq).cell? ⟨w.heap.size + 1, 1, none⟩ = some (.int .i64 off) := d1
  have B3 := below_draws B2.out nq
  clear z0 z1 zf c0 c1 c2 c3 c4 d0 d1 hbb
  generalize w2.drewN nq = w3 at z0' z1' zf' c0' c2' c3' c4' d0' d1' B3 ⊢
  have hne : w1.heap.size ≠ w.heap.size := by have := H1.out.2.2.2.2.2.2.2.1; omega
  have hne2 : w1.heap.size ≠ w.heap.size + 1 := by have := H1.out.2.2.2.2.2.2.2.1; omega
  have B3 := Lib.hid B3
  have R4 := Lib.hid ((R1.out.below B3.out).more B3.out.size)
  have B4 := Lib.hid (bthen H1.out.one.2 B3.out)
  go_wp2
  go_ret2
  exact ⟨_, cap, rfl, R4.out, B4.out, .inl rfl⟩

include hm hn hok hfit hns hj hr hz in
set_option maxRecDepth 100000 in
set_option maxHeartbeats 2000000 in
theorem ract_write_1_end (hc : conv ≤ (j : Int)) (hi : inB conv soft seq size j off = true) (h1 : s = 1) (h4 : off = p) (h6 : off + 1 = size) :
    Calls Try.prog 28 #[.agg #[.int .i64 conv, .int .i64 soft, .int .i64 seq, .int .i64 size, .int .i64 opn], .slice A n cap, .int .i64 0, .agg #[.int .i64 j, .int .i64 off]] w fun e w' => GivesR A w w' e n (act conv soft seq size opn L 0 j off) := by
  have H0 := Lib.hid (Two.new w conv soft seq size opn (j : Int) off 23 40)
  have hsm := hok.some
  obtain ⟨q1, q2, q3, q4, q5⟩ := id hsm
  have hh : hasB conv seq (j : Int) = true := has_yes ⟨by omega, by omega⟩
  rw [show act conv soft seq size opn L 0 j off = (L.set j (3, off + 1), 0) from act_at (by decide) (by decide) hh (fun _ => hi) hz (by subst h1 h4; show writeZ off size _ (1, off) = _; unfold writeZ; rw [if_neg (by simp), if_neg (by simp), if_neg (by simp), if_pos (.inl rfl)]; dsimp only; rw [if_pos h6])]
  have HS := Lib.hid fun w => rsectors_any conv soft seq size opn (j : Int) w hsm
  have HWi := Lib.hid fun s' p' w' (h : Rd w' w'.heap.size A (zc L)) => rwith_any A n cap L j s' p' w' hm hn hj h
  have HOp := Lib.hid fun w' (h : Rd w' w'.heap.size A (zc L)) q => (ropened_any A n cap L (w'.drewN q) (by simp only [maxLen]; omega) hn w'.heap.size (h.drewN q)).mono fun e w2 (hp : e = .returned (.int .i64 (cnt L)) ∧ w'.drewN q = w2) => (⟨hp.1, hp.2.symm⟩ : e = .returned (.int .i64 (cnt L)) ∧ w2 = w'.drewN q)
  have HR := Lib.hid fun w' (h : Two w w' conv soft seq size opn (j : Int) off) => (hr.one h.one).zone hz
  have HR1 := Lib.hid fun w' (h : Two w w' conv soft seq size opn (j : Int) off) => hr.one h.one
  have hjI : (j : Int) < (n : Int) := by omega
  have HNS := Lib.hid hns
  have _hf := hfit.1
  clear _hf
  have hs : sectors conv soft seq size (j : Int) = size := by unfold sectors; rw [if_neg (by omega), if_neg (by omega)]
  rw [hs] at HS
  have hsz : (size == 0) = false := by simp; omega
  have hsf : decide ((j : Int) < conv) = false := decide_eq_false (by omega)
  obtain ⟨o1, o2⟩ := in_in hi
  rw [hs] at o2
  have ho1 : decide (off < 0) = false := decide_eq_false (by omega)
  have ho2 : decide (size ≤ off) = false := decide_eq_false (by omega)
  clear hi
  have hq := IntWalk.i64_in (off + 1) (by omega)
  subst h6
  subst h1 h4
  clear hok hsm hfit hns hr hz hh hn
  go_enter Try.func28, Try.ntmps28
  go_wp2_with fail
  generalize World.alloc _ _ = w0 at H0 ⊢
  refine (HS.out _).mono ?_
  rintro e w1 ⟨rfl, hb⟩
  have H1 := Lib.hid (Two.below H0.out hb)
  have R1 := Lib.hid (HR1.out _ H1.out)
  obtain ⟨ad, rfl, _, e0, e1⟩ := HR.out _ H1.out
  obtain ⟨c0, c1, c2, c3, c4, d0, d1, hlt, hbb⟩ := id H1.out
  have hlt0 : w.heap.size < w1.heap.size := by omega
  have RA := Lib.hid fun o => (R1.out.alloc (Nat.le_refl _) o).more (show w1.heap.size ≤ (w1.alloc o).heap.size by simp)
  have HB := Lib.hid fun o => hbb.alloc hbb.size o
  clear H0 hb HR HR1
  go_wp2_with fail
  have z0 := (new_cells w1 (.int .i64 1) (.int .i64 off) 53 (0, 0)).1
  have z1 := (new_cells w1 (.int .i64 1) (.int .i64 off) 53 (0, 0)).2
  have zf := new_frozen w1 (.int .i64 1) (.int .i64 off) 53
  have H2 := Lib.hid (H1.out.below ((Below.refl w1.heap.size w1).alloc (Nat.le_refl _) (.cells #[.int .i64 1, .int .i64 off] 53)))
  have B2 := Lib.hid ((Below.refl w1.heap.size w1).alloc (Nat.le_refl _) (.cells #[.int .i64 1, .int .i64 off] 53))
  have R2 := Lib.hid (RA.out (.cells #[.int .i64 1, .int .i64 off] 53))
  clear c0 c1 c2 c3 c4 d0 d1 hlt hlt0 hbb e0 e1 RA HB
  generalize World.alloc w1 _ = w2 at z0 z1 zf H2 B2 R2 ⊢
  obtain ⟨c0, c1, c2, c3, c4, d0, d1, hlt, hbb⟩ := id H2.out
  have HO2 := Lib.hid fun q => HOp.out w2 R2.out q
  clear HOp
  go_quiet ((go_at_call 45; exact Calls.quiet_of_same (HO2.out _)))
  have z0' : (w2.drewN nq).cell? ⟨w1.heap.size, 0, none⟩ = some (.int .i64 1) := z0
  have z1' : (w2.drewN nq).cell? ⟨w1.heap.size, 1, none⟩ = some (.int .i64 off) := z1
  have zf' : ∀ i, (w2.drewN nq).frozen? ⟨w1.heap.size, i, none⟩ = false := zf
  have c0' : (w2.drewN nq).cell? ⟨w.heap.size, 0, none⟩ = some (.int .i64 conv) := c0
  have c2' : (w2.drewN nq).cell? ⟨w.heap.size, 2, none⟩ = some (.int .i64 seq) := c2
  have c3' : (w2.drewN nq).cell? ⟨w.heap.size, 3, none⟩ = some (.int .i64 (off + 1)) := c3
  have c4' : (w2.drewN nq).cell? ⟨w.heap.size, 4, none⟩ = some (.int .i64 opn) := c4
  have d0' : (w2.drewN nq).cell? ⟨w.heap.size + 1, 0, none⟩ = some (.int .i64 j) := d0
  have d1' : (w2.drewN nq).cell? ⟨w.heap.size + 1, 1, none⟩ = some (.int .i64 off) := d1
  have B3 := below_draws B2.out nq
  clear z0 z1 zf c0 c1 c2 c3 c4 d0 d1 hbb
  generalize w2.drewN nq = w3 at z0' z1' zf' c0' c2' c3' c4' d0' d1' B3 ⊢
  have hne : w1.heap.size ≠ w.heap.size := by have := H1.out.2.2.2.2.2.2.2.1; omega
  have hne2 : w1.heap.size ≠ w.heap.size + 1 := by have := H1.out.2.2.2.2.2.2.2.1; omega
  have B3 := Lib.hid B3
  have s0_0 := set_at z0' (.int .i64 (1))
  have s0_1 := set_off z1' (.int .i64 (1)) (show (⟨w1.heap.size, 0, none⟩ : Addr) ≠ ⟨w1.heap.size, 1, none⟩ by simp)
  have s1_1 := set_at s0_1 (.int .i64 (off + 1))
  have s1_0 := set_off s0_0 (.int .i64 (off + 1)) (show (⟨w1.heap.size, 1, none⟩ : Addr) ≠ ⟨w1.heap.size, 0, none⟩ by simp)
  have s2_0 := set_at s1_0 (.int .i64 (3))
  have s2_1 := set_off s1_1 (.int .i64 (3)) (show (⟨w1.heap.size, 0, none⟩ : Addr) ≠ ⟨w1.heap.size, 1, none⟩ by simp)
  clear s0_1 s1_0 s2_1
  have BW := Lib.hid ((((B3.out.setCell (p := ⟨w1.heap.size, 0, none⟩) (Nat.le_refl _) (.int .i64 (1))).setCell (p := ⟨w1.heap.size, 1, none⟩) (Nat.le_refl _) (.int .i64 (off + 1))).setCell (p := ⟨w1.heap.size, 0, none⟩) (Nat.le_refl _) (.int .i64 (3))))
  have RW := Lib.hid ((R1.out.below BW.out).more BW.out.size)
  have HBW := Lib.hid (bthen H1.out.one.2 BW.out)
  go_wp2_with fail
  refine (HWi.out _ _ _ RW.out).mono ?_
  rintro e w4 ⟨g, c, rfl, hown, hb⟩
  have RX := Lib.hid (Rd.own hown)
  have PW := Lib.hid (prov_own hown HBW.out.size)
  have BX := Lib.hid (bthen HBW.out hb)
  clear hown hb
  go_wp2
  go_ret2
  exact ⟨_, c, rfl, RX.out, BX.out, .inr PW.out⟩

include hm hn hok hfit hns hj hr hz in
set_option maxRecDepth 100000 in
set_option maxHeartbeats 2000000 in
theorem ract_write_0_end (hc : conv ≤ (j : Int)) (hi : inB conv soft seq size j off = true) (h1 : ¬ s = 3) (h4 : off = p) (h2 : ¬ s = 1) (h3 : ¬ opn ≤ (cnt L : Int)) (h6 : off + 1 = size) :
    Calls Try.prog 28 #[.agg #[.int .i64 conv, .int .i64 soft, .int .i64 seq, .int .i64 size, .int .i64 opn], .slice A n cap, .int .i64 0, .agg #[.int .i64 j, .int .i64 off]] w fun e w' => GivesR A w w' e n (act conv soft seq size opn L 0 j off) := by
  have H0 := Lib.hid (Two.new w conv soft seq size opn (j : Int) off 23 40)
  have hsm := hok.some
  obtain ⟨q1, q2, q3, q4, q5⟩ := id hsm
  have hh : hasB conv seq (j : Int) = true := has_yes ⟨by omega, by omega⟩
  rw [show act conv soft seq size opn L 0 j off = (L.set j (3, off + 1), 0) from act_at (by decide) (by decide) hh (fun _ => hi) hz (by have := fit_at hfit hz; unfold fitZ at this; dsimp only at this; subst h4; show writeZ off size _ (s, off) = _; unfold writeZ; rw [if_neg (by first | omega | (dsimp only; omega)), if_neg h1, if_neg (by simp), if_pos (.inr (by simp; omega))]; dsimp only; rw [if_pos h6])]
  have HS := Lib.hid fun w => rsectors_any conv soft seq size opn (j : Int) w hsm
  have HWi := Lib.hid fun s' p' w' (h : Rd w' w'.heap.size A (zc L)) => rwith_any A n cap L j s' p' w' hm hn hj h
  have HOp := Lib.hid fun w' (h : Rd w' w'.heap.size A (zc L)) q => (ropened_any A n cap L (w'.drewN q) (by simp only [maxLen]; omega) hn w'.heap.size (h.drewN q)).mono fun e w2 (hp : e = .returned (.int .i64 (cnt L)) ∧ w'.drewN q = w2) => (⟨hp.1, hp.2.symm⟩ : e = .returned (.int .i64 (cnt L)) ∧ w2 = w'.drewN q)
  have HR := Lib.hid fun w' (h : Two w w' conv soft seq size opn (j : Int) off) => (hr.one h.one).zone hz
  have HR1 := Lib.hid fun w' (h : Two w w' conv soft seq size opn (j : Int) off) => hr.one h.one
  have hjI : (j : Int) < (n : Int) := by omega
  have HNS := Lib.hid hns
  have _hf := hfit.1
  clear _hf
  have hs : sectors conv soft seq size (j : Int) = size := by unfold sectors; rw [if_neg (by omega), if_neg (by omega)]
  rw [hs] at HS
  have hsz : (size == 0) = false := by simp; omega
  have hsf : decide ((j : Int) < conv) = false := decide_eq_false (by omega)
  obtain ⟨o1, o2⟩ := in_in hi
  rw [hs] at o2
  have ho1 : decide (off < 0) = false := decide_eq_false (by omega)
  have ho2 : decide (size ≤ off) = false := decide_eq_false (by omega)
  clear hi
  have hd : (s == 3) = false := by simpa using h1
  have hq := IntWalk.i64_in (off + 1) (by omega)
  have hd2 : (s != 1) = true := by simpa using h2
  have hd3 : decide (opn ≤ (cnt L : Int)) = false := decide_eq_false h3
  subst h6
  subst h4
  clear hok hsm hfit hns hr hz hh hn
  go_enter Try.func28, Try.ntmps28
  go_wp2_with fail
  generalize World.alloc _ _ = w0 at H0 ⊢
  refine (HS.out _).mono ?_
  rintro e w1 ⟨rfl, hb⟩
  have H1 := Lib.hid (Two.below H0.out hb)
  have R1 := Lib.hid (HR1.out _ H1.out)
  obtain ⟨ad, rfl, _, e0, e1⟩ := HR.out _ H1.out
  obtain ⟨c0, c1, c2, c3, c4, d0, d1, hlt, hbb⟩ := id H1.out
  have hlt0 : w.heap.size < w1.heap.size := by omega
  have RA := Lib.hid fun o => (R1.out.alloc (Nat.le_refl _) o).more (show w1.heap.size ≤ (w1.alloc o).heap.size by simp)
  have HB := Lib.hid fun o => hbb.alloc hbb.size o
  clear H0 hb HR HR1
  go_wp2_with fail
  have z0 := (new_cells w1 (.int .i64 s) (.int .i64 off) 53 (0, 0)).1
  have z1 := (new_cells w1 (.int .i64 s) (.int .i64 off) 53 (0, 0)).2
  have zf := new_frozen w1 (.int .i64 s) (.int .i64 off) 53
  have H2 := Lib.hid (H1.out.below ((Below.refl w1.heap.size w1).alloc (Nat.le_refl _) (.cells #[.int .i64 s, .int .i64 off] 53)))
  have B2 := Lib.hid ((Below.refl w1.heap.size w1).alloc (Nat.le_refl _) (.cells #[.int .i64 s, .int .i64 off] 53))
  have R2 := Lib.hid (RA.out (.cells #[.int .i64 s, .int .i64 off] 53))
  clear c0 c1 c2 c3 c4 d0 d1 hlt hlt0 hbb e0 e1 RA HB
  generalize World.alloc w1 _ = w2 at z0 z1 zf H2 B2 R2 ⊢
  obtain ⟨c0, c1, c2, c3, c4, d0, d1, hlt, hbb⟩ := id H2.out
  have HO2 := Lib.hid fun q => HOp.out w2 R2.out q
  clear HOp
  go_quiet ((go_at_call 45; exact Calls.quiet_of_same (HO2.out _)))
  have z0' : (w2.drewN nq).cell? ⟨w1.heap.size, 0, none⟩ = some (.int .i64 s) := z0
  have z1' : (w2.drewN nq).cell? ⟨w1.heap.size, 1, none⟩ = some (.int .i64 off) := z1
  have zf' : ∀ i, (w2.drewN nq).frozen? ⟨w1.heap.size, i, none⟩ = false := zf
  have c0' : (w2.drewN nq).cell? ⟨w.heap.size, 0, none⟩ = some (.int .i64 conv) := c0
  have c2' : (w2.drewN nq).cell? ⟨w.heap.size, 2, none⟩ = some (.int .i64 seq) := c2
  have c3' : (w2.drewN nq).cell? ⟨w.heap.size, 3, none⟩ = some (.int .i64 (off + 1)) := c3
  have c4' : (w2.drewN nq).cell? ⟨w.heap.size, 4, none⟩ = some (.int .i64 opn) := c4
  have d0' : (w2.drewN nq).cell? ⟨w.heap.size + 1, 0, none⟩ = some (.int .i64 j) := d0
  have d1' : (w2.drewN nq).cell? ⟨w.heap.size + 1, 1, none⟩ = some (.int .i64 off) := d1
  have B3 := below_draws B2.out nq
  clear z0 z1 zf c0 c1 c2 c3 c4 d0 d1 hbb
  generalize w2.drewN nq = w3 at z0' z1' zf' c0' c2' c3' c4' d0' d1' B3 ⊢
  have hne : w1.heap.size ≠ w.heap.size := by have := H1.out.2.2.2.2.2.2.2.1; omega
  have hne2 : w1.heap.size ≠ w.heap.size + 1 := by have := H1.out.2.2.2.2.2.2.2.1; omega
  have B3 := Lib.hid B3
  have s0_0 := set_at z0' (.int .i64 (1))
  have s0_1 := set_off z1' (.int .i64 (1)) (show (⟨w1.heap.size, 0, none⟩ : Addr) ≠ ⟨w1.heap.size, 1, none⟩ by simp)
  have s1_1 := set_at s0_1 (.int .i64 (off + 1))
  have s1_0 := set_off s0_0 (.int .i64 (off + 1)) (show (⟨w1.heap.size, 1, none⟩ : Addr) ≠ ⟨w1.heap.size, 0, none⟩ by simp)
  have s2_0 := set_at s1_0 (.int .i64 (3))
  have s2_1 := set_off s1_1 (.int .i64 (3)) (show (⟨w1.heap.size, 0, none⟩ : Addr) ≠ ⟨w1.heap.size, 1, none⟩ by simp)
  clear s0_1 s1_0 s2_1
  have BW := Lib.hid ((((B3.out.setCell (p := ⟨w1.heap.size, 0, none⟩) (Nat.le_refl _) (.int .i64 (1))).setCell (p := ⟨w1.heap.size, 1, none⟩) (Nat.le_refl _) (.int .i64 (off + 1))).setCell (p := ⟨w1.heap.size, 0, none⟩) (Nat.le_refl _) (.int .i64 (3))))
  have RW := Lib.hid ((R1.out.below BW.out).more BW.out.size)
  have HBW := Lib.hid (bthen H1.out.one.2 BW.out)
  go_wp2_with fail
  refine (HWi.out _ _ _ RW.out).mono ?_
  rintro e w4 ⟨g, c, rfl, hown, hb⟩
  have RX := Lib.hid (Rd.own hown)
  have PW := Lib.hid (prov_own hown HBW.out.size)
  have BX := Lib.hid (bthen HBW.out hb)
  clear hown hb
  go_wp2
  go_ret2
  exact ⟨_, c, rfl, RX.out, BX.out, .inr PW.out⟩

include hm hn hok hfit hns hj hr hz in
set_option maxRecDepth 100000 in
set_option maxHeartbeats 2000000 in
theorem ract_write_1_go (hc : conv ≤ (j : Int)) (hi : inB conv soft seq size j off = true) (h1 : s = 1) (h4 : off = p) (h6 : ¬ off + 1 = size) :
    Calls Try.prog 28 #[.agg #[.int .i64 conv, .int .i64 soft, .int .i64 seq, .int .i64 size, .int .i64 opn], .slice A n cap, .int .i64 0, .agg #[.int .i64 j, .int .i64 off]] w fun e w' => GivesR A w w' e n (act conv soft seq size opn L 0 j off) := by
  have H0 := Lib.hid (Two.new w conv soft seq size opn (j : Int) off 23 40)
  have hsm := hok.some
  obtain ⟨q1, q2, q3, q4, q5⟩ := id hsm
  have hh : hasB conv seq (j : Int) = true := has_yes ⟨by omega, by omega⟩
  rw [show act conv soft seq size opn L 0 j off = (L.set j (1, off + 1), 0) from act_at (by decide) (by decide) hh (fun _ => hi) hz (by subst h1 h4; show writeZ off size _ (1, off) = _; unfold writeZ; rw [if_neg (by simp), if_neg (by simp), if_neg (by simp), if_pos (.inl rfl)]; dsimp only; rw [if_neg h6])]
  have HS := Lib.hid fun w => rsectors_any conv soft seq size opn (j : Int) w hsm
  have HWi := Lib.hid fun s' p' w' (h : Rd w' w'.heap.size A (zc L)) => rwith_any A n cap L j s' p' w' hm hn hj h
  have HOp := Lib.hid fun w' (h : Rd w' w'.heap.size A (zc L)) q => (ropened_any A n cap L (w'.drewN q) (by simp only [maxLen]; omega) hn w'.heap.size (h.drewN q)).mono fun e w2 (hp : e = .returned (.int .i64 (cnt L)) ∧ w'.drewN q = w2) => (⟨hp.1, hp.2.symm⟩ : e = .returned (.int .i64 (cnt L)) ∧ w2 = w'.drewN q)
  have HR := Lib.hid fun w' (h : Two w w' conv soft seq size opn (j : Int) off) => (hr.one h.one).zone hz
  have HR1 := Lib.hid fun w' (h : Two w w' conv soft seq size opn (j : Int) off) => hr.one h.one
  have hjI : (j : Int) < (n : Int) := by omega
  have HNS := Lib.hid hns
  have _hf := hfit.1
  clear _hf
  have hs : sectors conv soft seq size (j : Int) = size := by unfold sectors; rw [if_neg (by omega), if_neg (by omega)]
  rw [hs] at HS
  have hsz : (size == 0) = false := by simp; omega
  have hsf : decide ((j : Int) < conv) = false := decide_eq_false (by omega)
  obtain ⟨o1, o2⟩ := in_in hi
  rw [hs] at o2
  have ho1 : decide (off < 0) = false := decide_eq_false (by omega)
  have ho2 : decide (size ≤ off) = false := decide_eq_false (by omega)
  clear hi
  have hq := IntWalk.i64_in (off + 1) (by omega)
  have hd6 : (off + 1 == size) = false := by simpa using h6
  subst h1 h4
  clear hok hsm hfit hns hr hz hh hn
  go_enter Try.func28, Try.ntmps28
  go_wp2_with fail
  generalize World.alloc _ _ = w0 at H0 ⊢
  refine (HS.out _).mono ?_
  rintro e w1 ⟨rfl, hb⟩
  have H1 := Lib.hid (Two.below H0.out hb)
  have R1 := Lib.hid (HR1.out _ H1.out)
  obtain ⟨ad, rfl, _, e0, e1⟩ := HR.out _ H1.out
  obtain ⟨c0, c1, c2, c3, c4, d0, d1, hlt, hbb⟩ := id H1.out
  have hlt0 : w.heap.size < w1.heap.size := by omega
  have RA := Lib.hid fun o => (R1.out.alloc (Nat.le_refl _) o).more (show w1.heap.size ≤ (w1.alloc o).heap.size by simp)
  have HB := Lib.hid fun o => hbb.alloc hbb.size o
  clear H0 hb HR HR1
  go_wp2_with fail
  have z0 := (new_cells w1 (.int .i64 1) (.int .i64 off) 53 (0, 0)).1
  have z1 := (new_cells w1 (.int .i64 1) (.int .i64 off) 53 (0, 0)).2
  have zf := new_frozen w1 (.int .i64 1) (.int .i64 off) 53
  have H2 := Lib.hid (H1.out.below ((Below.refl w1.heap.size w1).alloc (Nat.le_refl _) (.cells #[.int .i64 1, .int .i64 off] 53)))
  have B2 := Lib.hid ((Below.refl w1.heap.size w1).alloc (Nat.le_refl _) (.cells #[.int .i64 1, .int .i64 off] 53))
  have R2 := Lib.hid (RA.out (.cells #[.int .i64 1, .int .i64 off] 53))
  clear c0 c1 c2 c3 c4 d0 d1 hlt hlt0 hbb e0 e1 RA HB
  generalize World.alloc w1 _ = w2 at z0 z1 zf H2 B2 R2 ⊢
  obtain ⟨c0, c1, c2, c3, c4, d0, d1, hlt, hbb⟩ := id H2.out
  have HO2 := Lib.hid fun q => HOp.out w2 R2.out q
  clear HOp
  go_quiet ((go_at_call 45; exact Calls.quiet_of_same (HO2.out _)))
  have z0' : (w2.drewN nq).cell? ⟨w1.heap.size, 0, none⟩ = some (.int .i64 1) := z0
  have z1' : (w2.drewN nq).cell? ⟨w1.heap.size, 1, none⟩ = some (.int .i64 off) := z1
  have zf' : ∀ i, (w2.drewN nq).frozen? ⟨w1.heap.size, i, none⟩ = false := zf
  have c0' : (w2.drewN nq).cell? ⟨w.heap.size, 0, none⟩ = some (.int .i64 conv) := c0
  have c2' : (w2.drewN nq).cell? ⟨w.heap.size, 2, none⟩ = some (.int .i64 seq) := c2
  have c3' : (w2.drewN nq).cell? ⟨w.heap.size, 3, none⟩ = some (.int .i64 size) := c3
  have c4' : (w2.drewN nq).cell? ⟨w.heap.size, 4, none⟩ = some (.int .i64 opn) := c4
  have d0' : (w2.drewN nq).cell? ⟨w.heap.size + 1, 0, none⟩ = some (.int .i64 j) := d0
  have d1' : (w2.drewN nq).cell? ⟨w.heap.size + 1, 1, none⟩ = some (.int .i64 off) := d1
  have B3 := below_draws B2.out nq
  clear z0 z1 zf c0 c1 c2 c3 c4 d0 d1 hbb
  generalize w2.drewN nq = w3 at z0' z1' zf' c0' c2' c3' c4' d0' d1' B3 ⊢
  have hne : w1.heap.size ≠ w.heap.size := by have := H1.out.2.2.2.2.2.2.2.1; omega
  have hne2 : w1.heap.size ≠ w.heap.size + 1 := by have := H1.out.2.2.2.2.2.2.2.1; omega
  have B3 := Lib.hid B3
  have s0_0 := set_at z0' (.int .i64 (1))
  have s0_1 := set_off z1' (.int .i64 (1)) (show (⟨w1.heap.size, 0, none⟩ : Addr) ≠ ⟨w1.heap.size, 1, none⟩ by simp)
  have s1_1 := set_at s0_1 (.int .i64 (off + 1))
  have s1_0 := set_off s0_0 (.int .i64 (off + 1)) (show (⟨w1.heap.size, 1, none⟩ : Addr) ≠ ⟨w1.heap.size, 0, none⟩ by simp)
  clear s0_1 s1_0
  have BW := Lib.hid (((B3.out.setCell (p := ⟨w1.heap.size, 0, none⟩) (Nat.le_refl _) (.int .i64 (1))).setCell (p := ⟨w1.heap.size, 1, none⟩) (Nat.le_refl _) (.int .i64 (off + 1))))
  have RW := Lib.hid ((R1.out.below BW.out).more BW.out.size)
  have HBW := Lib.hid (bthen H1.out.one.2 BW.out)
  go_wp2_with fail
  refine (HWi.out _ _ _ RW.out).mono ?_
  rintro e w4 ⟨g, c, rfl, hown, hb⟩
  have RX := Lib.hid (Rd.own hown)
  have PW := Lib.hid (prov_own hown HBW.out.size)
  have BX := Lib.hid (bthen HBW.out hb)
  clear hown hb
  go_wp2
  go_ret2
  exact ⟨_, c, rfl, RX.out, BX.out, .inr PW.out⟩

include hm hn hok hfit hns hj hr hz in
set_option maxRecDepth 100000 in
set_option maxHeartbeats 2000000 in
theorem ract_write_0_go (hc : conv ≤ (j : Int)) (hi : inB conv soft seq size j off = true) (h1 : ¬ s = 3) (h4 : off = p) (h2 : ¬ s = 1) (h3 : ¬ opn ≤ (cnt L : Int)) (h6 : ¬ off + 1 = size) :
    Calls Try.prog 28 #[.agg #[.int .i64 conv, .int .i64 soft, .int .i64 seq, .int .i64 size, .int .i64 opn], .slice A n cap, .int .i64 0, .agg #[.int .i64 j, .int .i64 off]] w fun e w' => GivesR A w w' e n (act conv soft seq size opn L 0 j off) := by
  have H0 := Lib.hid (Two.new w conv soft seq size opn (j : Int) off 23 40)
  have hsm := hok.some
  obtain ⟨q1, q2, q3, q4, q5⟩ := id hsm
  have hh : hasB conv seq (j : Int) = true := has_yes ⟨by omega, by omega⟩
  rw [show act conv soft seq size opn L 0 j off = (L.set j (1, off + 1), 0) from act_at (by decide) (by decide) hh (fun _ => hi) hz (by have := fit_at hfit hz; unfold fitZ at this; dsimp only at this; subst h4; show writeZ off size _ (s, off) = _; unfold writeZ; rw [if_neg (by first | omega | (dsimp only; omega)), if_neg h1, if_neg (by simp), if_pos (.inr (by simp; omega))]; dsimp only; rw [if_neg h6])]
  have HS := Lib.hid fun w => rsectors_any conv soft seq size opn (j : Int) w hsm
  have HWi := Lib.hid fun s' p' w' (h : Rd w' w'.heap.size A (zc L)) => rwith_any A n cap L j s' p' w' hm hn hj h
  have HOp := Lib.hid fun w' (h : Rd w' w'.heap.size A (zc L)) q => (ropened_any A n cap L (w'.drewN q) (by simp only [maxLen]; omega) hn w'.heap.size (h.drewN q)).mono fun e w2 (hp : e = .returned (.int .i64 (cnt L)) ∧ w'.drewN q = w2) => (⟨hp.1, hp.2.symm⟩ : e = .returned (.int .i64 (cnt L)) ∧ w2 = w'.drewN q)
  have HR := Lib.hid fun w' (h : Two w w' conv soft seq size opn (j : Int) off) => (hr.one h.one).zone hz
  have HR1 := Lib.hid fun w' (h : Two w w' conv soft seq size opn (j : Int) off) => hr.one h.one
  have hjI : (j : Int) < (n : Int) := by omega
  have HNS := Lib.hid hns
  have _hf := hfit.1
  clear _hf
  have hs : sectors conv soft seq size (j : Int) = size := by unfold sectors; rw [if_neg (by omega), if_neg (by omega)]
  rw [hs] at HS
  have hsz : (size == 0) = false := by simp; omega
  have hsf : decide ((j : Int) < conv) = false := decide_eq_false (by omega)
  obtain ⟨o1, o2⟩ := in_in hi
  rw [hs] at o2
  have ho1 : decide (off < 0) = false := decide_eq_false (by omega)
  have ho2 : decide (size ≤ off) = false := decide_eq_false (by omega)
  clear hi
  have hd : (s == 3) = false := by simpa using h1
  have hq := IntWalk.i64_in (off + 1) (by omega)
  have hd2 : (s != 1) = true := by simpa using h2
  have hd3 : decide (opn ≤ (cnt L : Int)) = false := decide_eq_false h3
  have hd6 : (off + 1 == size) = false := by simpa using h6
  subst h4
  clear hok hsm hfit hns hr hz hh hn
  go_enter Try.func28, Try.ntmps28
  go_wp2_with fail
  generalize World.alloc _ _ = w0 at H0 ⊢
  refine (HS.out _).mono ?_
  rintro e w1 ⟨rfl, hb⟩
  have H1 := Lib.hid (Two.below H0.out hb)
  have R1 := Lib.hid (HR1.out _ H1.out)
  obtain ⟨ad, rfl, _, e0, e1⟩ := HR.out _ H1.out
  obtain ⟨c0, c1, c2, c3, c4, d0, d1, hlt, hbb⟩ := id H1.out
  have hlt0 : w.heap.size < w1.heap.size := by omega
  have RA := Lib.hid fun o => (R1.out.alloc (Nat.le_refl _) o).more (show w1.heap.size ≤ (w1.alloc o).heap.size by simp)
  have HB := Lib.hid fun o => hbb.alloc hbb.size o
  clear H0 hb HR HR1
  go_wp2_with fail
  have z0 := (new_cells w1 (.int .i64 s) (.int .i64 off) 53 (0, 0)).1
  have z1 := (new_cells w1 (.int .i64 s) (.int .i64 off) 53 (0, 0)).2
  have zf := new_frozen w1 (.int .i64 s) (.int .i64 off) 53
  have H2 := Lib.hid (H1.out.below ((Below.refl w1.heap.size w1).alloc (Nat.le_refl _) (.cells #[.int .i64 s, .int .i64 off] 53)))
  have B2 := Lib.hid ((Below.refl w1.heap.size w1).alloc (Nat.le_refl _) (.cells #[.int .i64 s, .int .i64 off] 53))
  have R2 := Lib.hid (RA.out (.cells #[.int .i64 s, .int .i64 off] 53))
  clear c0 c1 c2 c3 c4 d0 d1 hlt hlt0 hbb e0 e1 RA HB
  generalize World.alloc w1 _ = w2 at z0 z1 zf H2 B2 R2 ⊢
  obtain ⟨c0, c1, c2, c3, c4, d0, d1, hlt, hbb⟩ := id H2.out
  have HO2 := Lib.hid fun q => HOp.out w2 R2.out q
  clear HOp
  go_quiet ((go_at_call 45; exact Calls.quiet_of_same (HO2.out _)))
  have z0' : (w2.drewN nq).cell? ⟨w1.heap.size, 0, none⟩ = some (.int .i64 s) := z0
  have z1' : (w2.drewN nq).cell? ⟨w1.heap.size, 1, none⟩ = some (.int .i64 off) := z1
  have zf' : ∀ i, (w2.drewN nq).frozen? ⟨w1.heap.size, i, none⟩ = false := zf
  have c0' : (w2.drewN nq).cell? ⟨w.heap.size, 0, none⟩ = some (.int .i64 conv) := c0
  have c2' : (w2.drewN nq).cell? ⟨w.heap.size, 2, none⟩ = some (.int .i64 seq) := c2
  have c3' : (w2.drewN nq).cell? ⟨w.heap.size, 3, none⟩ = some (.int .i64 size) := c3
  have c4' : (w2.drewN nq).cell? ⟨w.heap.size, 4, none⟩ = some (.int .i64 opn) := c4
  have d0' : (w2.drewN nq).cell? ⟨w.heap.size + 1, 0, none⟩ = some (.int .i64 j) := d0
  have d1' : (w2.drewN nq).cell? ⟨w.heap.size + 1, 1, none⟩ = some (.int .i64 off) := d1
  have B3 := below_draws B2.out nq
  clear z0 z1 zf c0 c1 c2 c3 c4 d0 d1 hbb
  generalize w2.drewN nq = w3 at z0' z1' zf' c0' c2' c3' c4' d0' d1' B3 ⊢
  have hne : w1.heap.size ≠ w.heap.size := by have := H1.out.2.2.2.2.2.2.2.1; omega
  have hne2 : w1.heap.size ≠ w.heap.size + 1 := by have := H1.out.2.2.2.2.2.2.2.1; omega
  have B3 := Lib.hid B3
  have s0_0 := set_at z0' (.int .i64 (1))
  have s0_1 := set_off z1' (.int .i64 (1)) (show (⟨w1.heap.size, 0, none⟩ : Addr) ≠ ⟨w1.heap.size, 1, none⟩ by simp)
  have s1_1 := set_at s0_1 (.int .i64 (off + 1))
  have s1_0 := set_off s0_0 (.int .i64 (off + 1)) (show (⟨w1.heap.size, 1, none⟩ : Addr) ≠ ⟨w1.heap.size, 0, none⟩ by simp)
  clear s0_1 s1_0
  have BW := Lib.hid (((B3.out.setCell (p := ⟨w1.heap.size, 0, none⟩) (Nat.le_refl _) (.int .i64 (1))).setCell (p := ⟨w1.heap.size, 1, none⟩) (Nat.le_refl _) (.int .i64 (off + 1))))
  have RW := Lib.hid ((R1.out.below BW.out).more BW.out.size)
  have HBW := Lib.hid (bthen H1.out.one.2 BW.out)
  go_wp2_with fail
  refine (HWi.out _ _ _ RW.out).mono ?_
  rintro e w4 ⟨g, c, rfl, hown, hb⟩
  have RX := Lib.hid (Rd.own hown)
  have PW := Lib.hid (prov_own hown HBW.out.size)
  have BX := Lib.hid (bthen HBW.out hb)
  clear hown hb
  go_wp2
  go_ret2
  exact ⟨_, c, rfl, RX.out, BX.out, .inr PW.out⟩

end
end Go.Proofs.Ytkdhibjmfanhcaa

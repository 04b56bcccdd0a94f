/-
  ZoneY
-/
import Derived.Test.YtkdhibjmfanhcaaMg37
/-
  The walks of the document's answer for what is asked of a zone that there is.
-/
namespace Go.Proofs.Ytkdhibjmfanhcaa
open Go.RowKit Geom Zone
set_option linter.unusedVariables false

theorem new_frozen (w : World) (u v : Value) (T : TypeId) (i : Nat) : (w.alloc (.cells #[u, v] T)).frozen? ⟨w.heap.size, i, none⟩ = false :=
  (World.ownsRow_lit w #[u, v] 1 (e := T) (size := 2) (Nat.le_refl _) (by decide) (by simp)).frozenAt i

section
variable (conv soft seq size opn off : Int) (j : Nat) (A : Option Addr) (n cap : Nat) (L : List Z) (w : World) (hm : n ≤ 1000) (hn : L.length = n) (hok : Ok conv soft seq size opn) (hfit : Fit conv seq size opn L) (hns : (n : Int) = conv + seq) (hj : j < n) (hr : Rd w w.heap.size A (zc L)) (s p : Int) (hz : L[j]? = some (s, p))

include hm hn hok hfit hns hj hr hz in
set_option maxRecDepth 100000 in
set_option maxHeartbeats 2000000 in
theorem ract_soft0 (hc : (j : Int) < conv) (hi : inB conv soft seq size j off = true) :
    Calls Try.prog 28 #[.agg #[.int .i64 conv, .int .i64 soft, .int .i64 seq, .int .i64 size, .int .i64 opn], .slice A n cap, .int .i64 0, .agg #[.int .i64 j, .int .i64 off]] w fun e w' => GivesR A w w' e n (act conv soft seq size opn L 0 j off) := by
  have H0 := Lib.hid (Two.new w conv soft seq size opn (j : Int) off 23 40)
  have hsm := hok.some
  obtain ⟨q1, q2, q3, q4, q5⟩ := id hsm
  have hh : hasB conv seq (j : Int) = true := has_yes ⟨by omega, by omega⟩
  rw [show act conv soft seq size opn L 0 j off = (L, 0) from act_err_at (by decide) (by decide) hh (fun _ => hi) hz (by have := fit_at hfit hz; unfold fitZ at this; dsimp only at this; obtain rfl : s = 4 := (by omega); rfl)]
  have HS := Lib.hid fun w => rsectors_any conv soft seq size opn (j : Int) w hsm
  have HWi := Lib.hid fun s' p' w' (h : Rd w' w'.heap.size A (zc L)) => rwith_any A n cap L j s' p' w' hm hn hj h
  have HOp := Lib.hid fun w' (h : Rd w' w'.heap.size A (zc L)) q => (ropened_any A n cap L (w'.drewN q) (by simp only [maxLen]; omega) hn w'.heap.size (h.drewN q)).mono fun e w2 (hp : e = .returned (.int .i64 (cnt L)) ∧ w'.drewN q = w2) => (⟨hp.1, hp.2.symm⟩ : e = .returned (.int .i64 (cnt L)) ∧ w2 = w'.drewN q)
  have HR := Lib.hid fun w' (h : Two w w' conv soft seq size opn (j : Int) off) => (hr.one h.one).zone hz
  have HR1 := Lib.hid fun w' (h : Two w w' conv soft seq size opn (j : Int) off) => hr.one h.one
  have hjI : (j : Int) < (n : Int) := by omega
  have HNS := Lib.hid hns
  have _hf := hfit.1
  clear _hf
  have hs : sectors conv soft seq size (j : Int) = soft := by unfold sectors; rw [if_neg (by omega), if_pos (by omega)]
  rw [hs] at HS
  have hpg := pages_bd hsm
  have hs1 := hok.2.2.2.2.2.2.1
  have hsz : (soft == 0) = false := by simp; omega
  obtain ⟨o1, o2⟩ := in_in hi
  rw [hs] at o2
  have ho1 : decide (off < 0) = false := decide_eq_false (by omega)
  have ho2 : decide (soft ≤ off) = false := decide_eq_false (by omega)
  clear hok hsm hfit hns hr hz hh hn
  go_enter Try.func28, Try.ntmps28
  go_wp2_with fail
  generalize World.alloc _ _ = w0 at H0 ⊢
  refine (HS.out _).mono ?_
  rintro e w1 ⟨rfl, hb⟩
  have H1 := Lib.hid (Two.below H0.out hb)
  have R1 := Lib.hid (HR1.out _ H1.out)
  obtain ⟨ad, rfl, _, e0, e1⟩ := HR.out _ H1.out
  obtain ⟨c0, c1, c2, c3, c4, d0, d1, hlt, hbb⟩ := id H1.out
  have hlt0 : w.heap.size < w1.heap.size := by omega
  have RA := Lib.hid fun o => (R1.out.alloc (Nat.le_refl _) o).more (show w1.heap.size ≤ (w1.alloc o).heap.size by simp)
  have HB := Lib.hid fun o => hbb.alloc hbb.size o
  clear H0 hb HR HR1
  go_wp2
  go_ret2
  exact ⟨_, cap, rfl, RA.out _, HB.out _, .inl rfl⟩

include hm hn hok hfit hns hj hr hz in
set_option maxRecDepth 100000 in
set_option maxHeartbeats 2000000 in
theorem ract_soft1 (hc : (j : Int) < conv) (hi : inB conv soft seq size j off = true) :
    Calls Try.prog 28 #[.agg #[.int .i64 conv, .int .i64 soft, .int .i64 seq, .int .i64 size, .int .i64 opn], .slice A n cap, .int .i64 1, .agg #[.int .i64 j, .int .i64 off]] w fun e w' => GivesR A w w' e n (act conv soft seq size opn L 1 j off) := by
  have H0 := Lib.hid (Two.new w conv soft seq size opn (j : Int) off 23 40)
  have hsm := hok.some
  obtain ⟨q1, q2, q3, q4, q5⟩ := id hsm
  have hh : hasB conv seq (j : Int) = true := has_yes ⟨by omega, by omega⟩
  rw [show act conv soft seq size opn L 1 j off = (L, 0) from (act_read_at hi hz).trans (by have := fit_at hfit hz; unfold fitZ at this; dsimp only at this; rw [if_neg (by first | omega | (dsimp only; omega))])]
  have HS := Lib.hid fun w => rsectors_any conv soft seq size opn (j : Int) w hsm
  have HWi := Lib.hid fun s' p' w' (h : Rd w' w'.heap.size A (zc L)) => rwith_any A n cap L j s' p' w' hm hn hj h
  have HOp := Lib.hid fun w' (h : Rd w' w'.heap.size A (zc L)) q => (ropened_any A n cap L (w'.drewN q) (by simp only [maxLen]; omega) hn w'.heap.size (h.drewN q)).mono fun e w2 (hp : e = .returned (.int .i64 (cnt L)) ∧ w'.drewN q = w2) => (⟨hp.1, hp.2.symm⟩ : e = .returned (.int .i64 (cnt L)) ∧ w2 = w'.drewN q)
  have HR := Lib.hid fun w' (h : Two w w' conv soft seq size opn (j : Int) off) => (hr.one h.one).zone hz
  have HR1 := Lib.hid fun w' (h : Two w w' conv soft seq size opn (j : Int) off) => hr.one h.one
  have hjI : (j : Int) < (n : Int) := by omega
  have HNS := Lib.hid hns
  have _hf := hfit.1
  clear _hf
  have hs : sectors conv soft seq size (j : Int) = soft := by unfold sectors; rw [if_neg (by omega), if_pos (by omega)]
  rw [hs] at HS
  have hpg := pages_bd hsm
  have hs1 := hok.2.2.2.2.2.2.1
  have hsz : (soft == 0) = false := by simp; omega
  obtain ⟨o1, o2⟩ := in_in hi
  rw [hs] at o2
  have ho1 : decide (off < 0) = false := decide_eq_false (by omega)
  have ho2 : decide (soft ≤ off) = false := decide_eq_false (by omega)
  clear hok hsm hfit hns hr hz hh hn
  go_enter Try.func28, Try.ntmps28
  go_wp2_with fail
  generalize World.alloc _ _ = w0 at H0 ⊢
  refine (HS.out _).mono ?_
  rintro e w1 ⟨rfl, hb⟩
  have H1 := Lib.hid (Two.below H0.out hb)
  have R1 := Lib.hid (HR1.out _ H1.out)
  obtain ⟨ad, rfl, _, e0, e1⟩ := HR.out _ H1.out
  obtain ⟨c0, c1, c2, c3, c4, d0, d1, hlt, hbb⟩ := id H1.out
  have hlt0 : w.heap.size < w1.heap.size := by omega
  have RA := Lib.hid fun o => (R1.out.alloc (Nat.le_refl _) o).more (show w1.heap.size ≤ (w1.alloc o).heap.size by simp)
  have HB := Lib.hid fun o => hbb.alloc hbb.size o
  clear H0 hb HR HR1
  go_wp2
  go_ret2
  exact ⟨_, cap, rfl, RA.out _, HB.out _, .inl rfl⟩

include hm hn hok hfit hns hj hr hz in
set_option maxRecDepth 100000 in
set_option maxHeartbeats 2000000 in
theorem ract_soft2 (hc : (j : Int) < conv) :
    Calls Try.prog 28 #[.agg #[.int .i64 conv, .int .i64 soft, .int .i64 seq, .int .i64 size, .int .i64 opn], .slice A n cap, .int .i64 2, .agg #[.int .i64 j, .int .i64 off]] w fun e w' => GivesR A w w' e n (act conv soft seq size opn L 2 j off) := by
  have H0 := Lib.hid (Two.new w conv soft seq size opn (j : Int) off 23 40)
  have hsm := hok.some
  obtain ⟨q1, q2, q3, q4, q5⟩ := id hsm
  have hh : hasB conv seq (j : Int) = true := has_yes ⟨by omega, by omega⟩
  rw [show act conv soft seq size opn L 2 j off = (L, 3) from act_err_at (by decide) (by decide) hh (fun h => absurd h (by decide)) hz (by have := fit_at hfit hz; unfold fitZ at this; dsimp only at this; obtain rfl : s = 4 := (by omega); rfl)]
  have HS := Lib.hid fun w => rsectors_any conv soft seq size opn (j : Int) w hsm
  have HWi := Lib.hid fun s' p' w' (h : Rd w' w'.heap.size A (zc L)) => rwith_any A n cap L j s' p' w' hm hn hj h
  have HOp := Lib.hid fun w' (h : Rd w' w'.heap.size A (zc L)) q => (ropened_any A n cap L (w'.drewN q) (by simp only [maxLen]; omega) hn w'.heap.size (h.drewN q)).mono fun e w2 (hp : e = .returned (.int .i64 (cnt L)) ∧ w'.drewN q = w2) => (⟨hp.1, hp.2.symm⟩ : e = .returned (.int .i64 (cnt L)) ∧ w2 = w'.drewN q)
  have HR := Lib.hid fun w' (h : Two w w' conv soft seq size opn (j : Int) off) => (hr.one h.one).zone hz
  have HR1 := Lib.hid fun w' (h : Two w w' conv soft seq size opn (j : Int) off) => hr.one h.one
  have hjI : (j : Int) < (n : Int) := by omega
  have HNS := Lib.hid hns
  have _hf := hfit.1
  clear _hf
  have hs : sectors conv soft seq size (j : Int) = soft := by unfold sectors; rw [if_neg (by omega), if_pos (by omega)]
  rw [hs] at HS
  have hpg := pages_bd hsm
  have hs1 := hok.2.2.2.2.2.2.1
  have hsz : (soft == 0) = false := by simp; omega
  clear hok hsm hfit hns hr hz hh hn
  go_enter Try.func28, Try.ntmps28
  go_wp2_with fail
  generalize World.alloc _ _ = w0 at H0 ⊢
  refine (HS.out _).mono ?_
  rintro e w1 ⟨rfl, hb⟩
  have H1 := Lib.hid (Two.below H0.out hb)
  have R1 := Lib.hid (HR1.out _ H1.out)
  obtain ⟨ad, rfl, _, e0, e1⟩ := HR.out _ H1.out
  obtain ⟨c0, c1, c2, c3, c4, d0, d1, hlt, hbb⟩ := id H1.out
  have hlt0 : w.heap.size < w1.heap.size := by omega
  have RA := Lib.hid fun o => (R1.out.alloc (Nat.le_refl _) o).more (show w1.heap.size ≤ (w1.alloc o).heap.size by simp)
  have HB := Lib.hid fun o => hbb.alloc hbb.size o
  clear H0 hb HR HR1
  go_wp2
  go_ret2
  exact ⟨_, cap, rfl, RA.out _, HB.out _, .inl rfl⟩

include hm hn hok hfit hns hj hr hz in
set_option maxRecDepth 100000 in
set_option maxHeartbeats 2000000 in
theorem ract_soft3 (hc : (j : Int) < conv) :
    Calls Try.prog 28 #[.agg #[.int .i64 conv, .int .i64 soft, .int .i64 seq, .int .i64 size, .int .i64 opn], .slice A n cap, .int .i64 3, .agg #[.int .i64 j, .int .i64 off]] w fun e w' => GivesR A w w' e n (act conv soft seq size opn L 3 j off) := by
  have H0 := Lib.hid (Two.new w conv soft seq size opn (j : Int) off 23 40)
  have hsm := hok.some
  obtain ⟨q1, q2, q3, q4, q5⟩ := id hsm
  have hh : hasB conv seq (j : Int) = true := has_yes ⟨by omega, by omega⟩
  rw [show act conv soft seq size opn L 3 j off = (L, 3) from act_err_at (by decide) (by decide) hh (fun h => absurd h (by decide)) hz (by have := fit_at hfit hz; unfold fitZ at this; dsimp only at this; obtain rfl : s = 4 := (by omega); rfl)]
  have HS := Lib.hid fun w => rsectors_any conv soft seq size opn (j : Int) w hsm
  have HWi := Lib.hid fun s' p' w' (h : Rd w' w'.heap.size A (zc L)) => rwith_any A n cap L j s' p' w' hm hn hj h
  have HOp := Lib.hid fun w' (h : Rd w' w'.heap.size A (zc L)) q => (ropened_any A n cap L (w'.drewN q) (by simp only [maxLen]; omega) hn w'.heap.size (h.drewN q)).mono fun e w2 (hp : e = .returned (.int .i64 (cnt L)) ∧ w'.drewN q = w2) => (⟨hp.1, hp.2.symm⟩ : e = .returned (.int .i64 (cnt L)) ∧ w2 = w'.drewN q)
  have HR := Lib.hid fun w' (h : Two w w' conv soft seq size opn (j : Int) off) => (hr.one h.one).zone hz
  have HR1 := Lib.hid fun w' (h : Two w w' conv soft seq size opn (j : Int) off) => hr.one h.one
  have hjI : (j : Int) < (n : Int) := by omega
  have HNS := Lib.hid hns
  have _hf := hfit.1
  clear _hf
  have hs : sectors conv soft seq size (j : Int) = soft := by unfold sectors; rw [if_neg (by omega), if_pos (by omega)]
  rw [hs] at HS
  have hpg := pages_bd hsm
  have hs1 := hok.2.2.2.2.2.2.1
  have hsz : (soft == 0) = false := by simp; omega
  clear hok hsm hfit hns hr hz hh hn
  go_enter Try.func28, Try.ntmps28
  go_wp2_with fail
  generalize World.alloc _ _ = w0 at H0 ⊢
  refine (HS.out _).mono ?_
  rintro e w1 ⟨rfl, hb⟩
  have H1 := Lib.hid (Two.below H0.out hb)
  have R1 := Lib.hid (HR1.out _ H1.out)
  obtain ⟨ad, rfl, _, e0, e1⟩ := HR.out _ H1.out
  obtain ⟨c0, c1, c2, c3, c4, d0, d1, hlt, hbb⟩ := id H1.out
  have hlt0 : w.heap.size < w1.heap.size := by omega
  have RA := Lib.hid fun o => (R1.out.alloc (Nat.le_refl _) o).more (show w1.heap.size ≤ (w1.alloc o).heap.size by simp)
  have HB := Lib.hid fun o => hbb.alloc hbb.size o
  clear H0 hb HR HR1
  go_wp2
  go_ret2
  exact ⟨_, cap, rfl, RA.out _, HB.out _, .inl rfl⟩

include hm hn hok hfit hns hj hr hz in
set_option maxRecDepth 100000 in
set_option maxHeartbeats 2000000 in
theorem ract_soft4 (hc : (j : Int) < conv) :
    Calls Try.prog 28 #[.agg #[.int .i64 conv, .int .i64 soft, .int .i64 seq, .int .i64 size, .int .i64 opn], .slice A n cap, .int .i64 4, .agg #[.int .i64 j, .int .i64 off]] w fun e w' => GivesR A w w' e n (act conv soft seq size opn L 4 j off) := by
  have H0 := Lib.hid (Two.new w conv soft seq size opn (j : Int) off 23 40)
  have hsm := hok.some
  obtain ⟨q1, q2, q3, q4, q5⟩ := id hsm
  have hh : hasB conv seq (j : Int) = true := has_yes ⟨by omega, by omega⟩
  rw [show act conv soft seq size opn L 4 j off = (L, 3) from act_err_at (by decide) (by decide) hh (fun h => absurd h (by decide)) hz (by have := fit_at hfit hz; unfold fitZ at this; dsimp only at this; obtain rfl : s = 4 := (by omega); rfl)]
  have HS := Lib.hid fun w => rsectors_any conv soft seq size opn (j : Int) w hsm
  have HWi := Lib.hid fun s' p' w' (h : Rd w' w'.heap.size A (zc L)) => rwith_any A n cap L j s' p' w' hm hn hj h
  have HOp := Lib.hid fun w' (h : Rd w' w'.heap.size A (zc L)) q => (ropened_any A n cap L (w'.drewN q) (by simp only [maxLen]; omega) hn w'.heap.size (h.drewN q)).mono fun e w2 (hp : e = .returned (.int .i64 (cnt L)) ∧ w'.drewN q = w2) => (⟨hp.1, hp.2.symm⟩ : e = .returned (.int .i64 (cnt L)) ∧ w2 = w'.drewN q)
  have HR := Lib.hid fun w' (h : Two w w' conv soft seq size opn (j : Int) off) => (hr.one h.one).zone hz
  have HR1 := Lib.hid fun w' (h : Two w w' conv soft seq size opn (j : Int) off) => hr.one h.one
  have hjI : (j : Int) < (n : Int) := by omega
  have HNS := Lib.hid hns
  have _hf := hfit.1
  clear _hf
  have hs : sectors conv soft seq size (j : Int) = soft := by unfold sectors; rw [if_neg (by omega), if_pos (by omega)]
  rw [hs] at HS
  have hpg := pages_bd hsm
  have hs1 := hok.2.2.2.2.2.2.1
  have hsz : (soft == 0) = false := by simp; omega
  clear hok hsm hfit hns hr hz hh hn
  go_enter Try.func28, Try.ntmps28
  go_wp2_with fail
  generalize World.alloc _ _ = w0 at H0 ⊢
  refine (HS.out _).mono ?_
  rintro e w1 ⟨rfl, hb⟩
  have H1 := Lib.hid (Two.below H0.out hb)
  have R1 := Lib.hid (HR1.out _ H1.out)
  obtain ⟨ad, rfl, _, e0, e1⟩ := HR.out _ H1.out
  obtain ⟨c0, c1, c2, c3, c4, d0, d1, hlt, hbb⟩ := id H1.out
  have hlt0 : w.heap.size < w1.heap.size := by omega
  have RA := Lib.hid fun o => (R1.out.alloc (Nat.le_refl _) o).more (show w1.heap.size ≤ (w1.alloc o).heap.size by simp)
  have HB := Lib.hid fun o => hbb.alloc hbb.size o
  clear H0 hb HR HR1
  go_wp2
  go_ret2
  exact ⟨_, cap, rfl, RA.out _, HB.out _, .inl rfl⟩

include hm hn hok hfit hns hj hr hz in
set_option maxRecDepth 100000 in
set_option maxHeartbeats 2000000 in
theorem ract_soft5 (hc : (j : Int) < conv) :
    Calls Try.prog 28 #[.agg #[.int .i64 conv, .int .i64 soft, .int .i64 seq, .int .i64 size, .int .i64 opn], .slice A n cap, .int .i64 5, .agg #[.int .i64 j, .int .i64 off]] w fun e w' => GivesR A w w' e n (act conv soft seq size opn L 5 j off) := by
  have H0 := Lib.hid (Two.new w conv soft seq size opn (j : Int) off 23 40)
  have hsm := hok.some
  obtain ⟨q1, q2, q3, q4, q5⟩ := id hsm
  have hh : hasB conv seq (j : Int) = true := has_yes ⟨by omega, by omega⟩
  rw [show act conv soft seq size opn L 5 j off = (L, 3) from act_err_at (by decide) (by decide) hh (fun h => absurd h (by decide)) hz (by have := fit_at hfit hz; unfold fitZ at this; dsimp only at this; obtain rfl : s = 4 := (by omega); rfl)]
  have HS := Lib.hid fun w => rsectors_any conv soft seq size opn (j : Int) w hsm
  have HWi := Lib.hid fun s' p' w' (h : Rd w' w'.heap.size A (zc L)) => rwith_any A n cap L j s' p' w' hm hn hj h
  have HOp := Lib.hid fun w' (h : Rd w' w'.heap.size A (zc L)) q => (ropened_any A n cap L (w'.drewN q) (by simp only [maxLen]; omega) hn w'.heap.size (h.drewN q)).mono fun e w2 (hp : e = .returned (.int .i64 (cnt L)) ∧ w'.drewN q = w2) => (⟨hp.1, hp.2.symm⟩ : e = .returned (.int .i64 (cnt L)) ∧ w2 = w'.drewN q)
  have HR := Lib.hid fun w' (h : Two w w' conv soft seq size opn (j : Int) off) => (hr.one h.one).zone hz
  have HR1 := Lib.hid fun w' (h : Two w w' conv soft seq size opn (j : Int) off) => hr.one h.one
  have hjI : (j : Int) < (n : Int) := by omega
  have HNS := Lib.hid hns
  have _hf := hfit.1
  clear _hf
  have hs : sectors conv soft seq size (j : Int) = soft := by unfold sectors; rw [if_neg (by omega), if_pos (by omega)]
  rw [hs] at HS
  have hpg := pages_bd hsm
  have hs1 := hok.2.2.2.2.2.2.1
  have hsz : (soft == 0) = false := by simp; omega
  clear hok hsm hfit hns hr hz hh hn
  go_enter Try.func28, Try.ntmps28
  go_wp2_with fail
  generalize World.alloc _ _ = w0 at H0 ⊢
  refine (HS.out _).mono ?_
  rintro e w1 ⟨rfl, hb⟩
  have H1 := Lib.hid (Two.below H0.out hb)
  have R1 := Lib.hid (HR1.out _ H1.out)
  obtain ⟨ad, rfl, _, e0, e1⟩ := HR.out _ H1.out
  obtain ⟨c0, c1, c2, c3, c4, d0, d1, hlt, hbb⟩ := id H1.out
  have hlt0 : w.heap.size < w1.heap.size := by omega
  have RA := Lib.hid fun o => (R1.out.alloc (Nat.le_refl _) o).more (show w1.heap.size ≤ (w1.alloc o).heap.size by simp)
  have HB := Lib.hid fun o => hbb.alloc hbb.size o
  clear H0 hb HR HR1
  go_wp2
  go_ret2
  exact ⟨_, cap, rfl, RA.out _, HB.out _, .inl rfl⟩

include hm hn hok hfit hns hj hr hz in
set_option maxRecDepth 100000 in
set_option maxHeartbeats 2000000 in
theorem ract_read_yes (hc : conv ≤ (j : Int)) (hi : inB conv soft seq size j off = true) (hp : off < p) :
    Calls Try.prog 28 #[.agg #[.int .i64 conv, .int .i64 soft, .int .i64 seq, .int .i64 size, .int .i64 opn], .slice A n cap, .int .i64 1, .agg #[.int .i64 j, .int .i64 off]] w fun e w' => GivesR A w w' e n (act conv soft seq size opn L 1 j off) := by
  have H0 := Lib.hid (Two.new w conv soft seq size opn (j : Int) off 23 40)
  have hsm := hok.some
  obtain ⟨q1, q2, q3, q4, q5⟩ := id hsm
  have hh : hasB conv seq (j : Int) = true := has_yes ⟨by omega, by omega⟩
  rw [show act conv soft seq size opn L 1 j off = (L, 0) from (act_read_at hi hz).trans (by rw [if_neg (by first | omega | (dsimp only; omega))])]
  have HS := Lib.hid fun w => rsectors_any conv soft seq size opn (j : Int) w hsm
  have HWi := Lib.hid fun s' p' w' (h : Rd w' w'.heap.size A (zc L)) => rwith_any A n cap L j s' p' w' hm hn hj h
  have HOp := Lib.hid fun w' (h : Rd w' w'.heap.size A (zc L)) q => (ropened_any A n cap L (w'.drewN q) (by simp only [maxLen]; omega) hn w'.heap.size (h.drewN q)).mono fun e w2 (hp : e = .returned (.int .i64 (cnt L)) ∧ w'.drewN q = w2) => (⟨hp.1, hp.2.symm⟩ : e = .returned (.int .i64 (cnt L)) ∧ w2 = w'.drewN q)
  have HR := Lib.hid fun w' (h : Two w w' conv soft seq size opn (j : Int) off) => (hr.one h.one).zone hz
  have HR1 := Lib.hid fun w' (h : Two w w' conv soft seq size opn (j : Int) off) => hr.one h.one
  have hjI : (j : Int) < (n : Int) := by omega
  have HNS := Lib.hid hns
  have _hf := hfit.1
  clear _hf
  have hs : sectors conv soft seq size (j : Int) = size := by unfold sectors; rw [if_neg (by omega), if_neg (by omega)]
  rw [hs] at HS
  have hsz : (size == 0) = false := by simp; omega
  have hsf : decide ((j : Int) < conv) = false := decide_eq_false (by omega)
  obtain ⟨o1, o2⟩ := in_in hi
  rw [hs] at o2
  have ho1 : decide (off < 0) = false := decide_eq_false (by omega)
  have ho2 : decide (size ≤ off) = false := decide_eq_false (by omega)
  clear hi
  clear hok hsm hfit hns hr hz hh hn
  go_enter Try.func28, Try.ntmps28
  go_wp2_with fail
  generalize World.alloc _ _ = w0 at H0 ⊢
  refine (HS.out _).mono ?_
  rintro e w1 ⟨rfl, hb⟩
  have H1 := Lib.hid (Two.below H0.out hb)
  have R1 := Lib.hid (HR1.out _ H1.out)
  obtain ⟨ad, rfl, _, e0, e1⟩ := HR.out _ H1.out
  obtain ⟨c0, c1, c2, c3, c4, d0, d1, hlt, hbb⟩ := id H1.out
  have hlt0 : w.heap.size < w1.heap.size := by omega
  have RA := Lib.hid fun o => (R1.out.alloc (Nat.le_refl _) o).more (show w1.heap.size ≤ (w1.alloc o).heap.size by simp)
  have HB := Lib.hid fun o => hbb.alloc hbb.size o
  clear H0 hb HR HR1
  go_wp2
  go_ret2
  exact ⟨_, cap, rfl, RA.out _, HB.out _, .inl rfl⟩

include hm hn hok hfit hns hj hr hz in
set_option maxRecDepth 100000 in
set_option maxHeartbeats 2000000 in
theorem ract_read_no (hc : conv ≤ (j : Int)) (hi : inB conv soft seq size j off = true) (hp : ¬ off < p) :
    Calls Try.prog 28 #[.agg #[.int .i64 conv, .int .i64 soft, .int .i64 seq, .int .i64 size, .int .i64 opn], .slice A n cap, .int .i64 1, .agg #[.int .i64 j, .int .i64 off]] w fun e w' => GivesR A w w' e n (act conv soft seq size opn L 1 j off) := by
  have H0 := Lib.hid (Two.new w conv soft seq size opn (j : Int) off 23 40)
  have hsm := hok.some
  obtain ⟨q1, q2, q3, q4, q5⟩ := id hsm
  have hh : hasB conv seq (j : Int) = true := has_yes ⟨by omega, by omega⟩
  rw [show act conv soft seq size opn L 1 j off = (L, 4) from (act_read_at hi hz).trans (by have := fit_at hfit hz; unfold fitZ at this; dsimp only at this; rw [if_pos (by first | omega | (dsimp only; omega))])]
  have HS := Lib.hid fun w => rsectors_any conv soft seq size opn (j : Int) w hsm
  have HWi := Lib.hid fun s' p' w' (h : Rd w' w'.heap.size A (zc L)) => rwith_any A n cap L j s' p' w' hm hn hj h
  have HOp := Lib.hid fun w' (h : Rd w' w'.heap.size A (zc L)) q => (ropened_any A n cap L (w'.drewN q) (by simp only [maxLen]; omega) hn w'.heap.size (h.drewN q)).mono fun e w2 (hp : e = .returned (.int .i64 (cnt L)) ∧ w'.drewN q = w2) => (⟨hp.1, hp.2.symm⟩ : e = .returned (.int .i64 (cnt L)) ∧ w2 = w'.drewN q)
  have HR := Lib.hid fun w' (h : Two w w' conv soft seq size opn (j : Int) off) => (hr.one h.one).zone hz
  have HR1 := Lib.hid fun w' (h : Two w w' conv soft seq size opn (j : Int) off) => hr.one h.one
  have hjI : (j : Int) < (n : Int) := by omega
  have HNS := Lib.hid hns
  have _hf := hfit.1
  clear _hf
  have hs : sectors conv soft seq size (j : Int) = size := by unfold sectors; rw [if_neg (by omega), if_neg (by omega)]
  rw [hs] at HS
  have hsz : (size == 0) = false := by simp; omega
  have hsf : decide ((j : Int) < conv) = false := decide_eq_false (by omega)
  obtain ⟨o1, o2⟩ := in_in hi
  rw [hs] at o2
  have ho1 : decide (off < 0) = false := decide_eq_false (by omega)
  have ho2 : decide (size ≤ off) = false := decide_eq_false (by omega)
  clear hi
  clear hok hsm hfit hns hr hz hh hn
  go_enter Try.func28, Try.ntmps28
  go_wp2_with fail
  generalize World.alloc _ _ = w0 at H0 ⊢
  refine (HS.out _).mono ?_
  rintro e w1 ⟨rfl, hb⟩
  have H1 := Lib.hid (Two.below H0.out hb)
  have R1 := Lib.hid (HR1.out _ H1.out)
  obtain ⟨ad, rfl, _, e0, e1⟩ := HR.out _ H1.out
  obtain ⟨c0, c1, c2, c3, c4, d0, d1, hlt, hbb⟩ := id H1.out
  have hlt0 : w.heap.size < w1.heap.size := by omega
  have RA := Lib.hid fun o => (R1.out.alloc (Nat.le_refl _) o).more (show w1.heap.size ≤ (w1.alloc o).heap.size by simp)
  have HB := Lib.hid fun o => hbb.alloc hbb.size o
  clear H0 hb HR HR1
  go_wp2
  go_ret2
  exact ⟨_, cap, rfl, RA.out _, HB.out _, .inl rfl⟩

include hm hn hok hfit hns hj hr hz in
set_option maxRecDepth 100000 in
set_option maxHeartbeats 2000000 in
theorem ract_reset (hc : conv ≤ (j : Int)) :
    Calls Try.prog 28 #[.agg #[.int .i64 conv, .int .i64 soft, .int .i64 seq, .int .i64 size, .int .i64 opn], .slice A n cap, .int .i64 2, .agg #[.int .i64 j, .int .i64 off]] w fun e w' => GivesR A w w' e n (act conv soft seq size opn L 2 j off) := by
  have H0 := Lib.hid (Two.new w conv soft seq size opn (j : Int) off 23 40)
  have hsm := hok.some
  obtain ⟨q1, q2, q3, q4, q5⟩ := id hsm
  have hh : hasB conv seq (j : Int) = true := has_yes ⟨by omega, by omega⟩
  rw [show act conv soft seq size opn L 2 j off = (L.set j (0, 0), 0) from act_at (by decide) (by decide) hh (fun h => absurd h (by decide)) hz (by have := fit_at hfit hz; unfold fitZ at this; dsimp only at this; show resetZ (s, p) = ((0, 0), 0); exact if_neg (by dsimp only; omega))]
  have HS := Lib.hid fun w => rsectors_any conv soft seq size opn (j : Int) w hsm
  have HWi := Lib.hid fun s' p' w' (h : Rd w' w'.heap.size A (zc L)) => rwith_any A n cap L j s' p' w' hm hn hj h
  have HOp := Lib.hid fun w' (h : Rd w' w'.heap.size A (zc L)) q => (ropened_any A n cap L (w'.drewN q) (by simp only [maxLen]; omega) hn w'.heap.size (h.drewN q)).mono fun e w2 (hp : e = .returned (.int .i64 (cnt L)) ∧ w'.drewN q = w2) => (⟨hp.1, hp.2.symm⟩ : e = .returned (.int .i64 (cnt L)) ∧ w2 = w'.drewN q)
  have HR := Lib.hid fun w' (h : Two w w' conv soft seq size opn (j : Int) off) => (hr.one h.one).zone hz
  have HR1 := Lib.hid fun w' (h : Two w w' conv soft seq size opn (j : Int) off) => hr.one h.one
  have hjI : (j : Int) < (n : Int) := by omega
  have HNS := Lib.hid hns
  have _hf := hfit.1
  clear _hf
  have hs : sectors conv soft seq size (j : Int) = size := by unfold sectors; rw [if_neg (by omega), if_neg (by omega)]
  rw [hs] at HS
  have hsz : (size == 0) = false := by simp; omega
  have hsf : decide ((j : Int) < conv) = false := decide_eq_false (by omega)
  clear hok hsm hfit hns hr hz hh hn
  go_enter Try.func28, Try.ntmps28
  go_wp2_with fail
  generalize World.alloc _ _ = w0 at H0 ⊢
  refine (HS.out _).mono ?_
  rintro e w1 ⟨rfl, hb⟩
  have H1 := Lib.hid (Two.below H0.out hb)
  have R1 := Lib.hid (HR1.out _ H1.out)
  obtain ⟨ad, rfl, _, e0, e1⟩ := HR.out _ H1.out
  obtain ⟨c0, c1, c2, c3, c4, d0, d1, hlt, hbb⟩ := id H1.out
  have hlt0 : w.heap.size < w1.heap.size := by omega
  have RA := Lib.hid fun o => (R1.out.alloc (Nat.le_refl _) o).more (show w1.heap.size ≤ (w1.alloc o).heap.size by simp)
  have HB := Lib.hid fun o => hbb.alloc hbb.size o
  clear H0 hb HR HR1
  go_wp2_with fail
  refine (HWi.out _ _ _ (RA.out _)).mono ?_
  rintro e w3 ⟨g, c, rfl, hown, hb⟩
  have RW := Lib.hid (Rd.own hown)
  have PW := Lib.hid (prov_own hown (HB.out _).size)
  have BW := Lib.hid (bthen (HB.out _) hb)
  clear hown hb
  go_wp2
  go_ret2
  exact ⟨_, c, rfl, RW.out, BW.out, .inr PW.out⟩

include hm hn hok hfit hns hj hr hz in
set_option maxRecDepth 100000 in
set_option maxHeartbeats 2000000 in
theorem ract_close_no (hc : conv ≤ (j : Int)) (h1 : ¬ s = 1) :
    Calls Try.prog 28 #[.agg #[.int .i64 conv, .int .i64 soft, .int .i64 seq, .int .i64 size, .int .i64 opn], .slice A n cap, .int .i64 5, .agg #[.int .i64 j, .int .i64 off]] w fun e w' => GivesR A w w' e n (act conv soft seq size opn L 5 j off) := by
  have H0 := Lib.hid (Two.new w conv soft seq size opn (j : Int) off 23 40)
  have hsm := hok.some
  obtain ⟨q1, q2, q3, q4, q5⟩ := id hsm
  have hh : hasB conv seq (j : Int) = true := has_yes ⟨by omega, by omega⟩
  rw [show act conv soft seq size opn L 5 j off = (L, 3) from act_err_at (by decide) (by decide) hh (fun h => absurd h (by decide)) hz (if_neg h1)]
  have HS := Lib.hid fun w => rsectors_any conv soft seq size opn (j : Int) w hsm
  have HWi := Lib.hid fun s' p' w' (h : Rd w' w'.heap.size A (zc L)) => rwith_any A n cap L j s' p' w' hm hn hj h
  have HOp := Lib.hid fun w' (h : Rd w' w'.heap.size A (zc L)) q => (ropened_any A n cap L (w'.drewN q) (by simp only [maxLen]; omega) hn w'.heap.size (h.drewN q)).mono fun e w2 (hp : e = .returned (.int .i64 (cnt L)) ∧ w'.drewN q = w2) => (⟨hp.1, hp.2.symm⟩ : e = .returned (.int .i64 (cnt L)) ∧ w2 = w'.drewN q)
  have HR := Lib.hid fun w' (h : Two w w' conv soft seq size opn (j : Int) off) => (hr.one h.one).zone hz
  have HR1 := Lib.hid fun w' (h : Two w w' conv soft seq size opn (j : Int) off) => hr.one h.one
  have hjI : (j : Int) < (n : Int) := by omega
  have HNS := Lib.hid hns
  have _hf := hfit.1
  clear _hf
  have hs : sectors conv soft seq size (j : Int) = size := by unfold sectors; rw [if_neg (by omega), if_neg (by omega)]
  rw [hs] at HS
  have hsz : (size == 0) = false := by simp; omega
  have hsf : decide ((j : Int) < conv) = false := decide_eq_false (by omega)
  have hd : (s != 1) = true := by simpa using h1
  clear hok hsm hfit hns hr hz hh hn
  go_enter Try.func28, Try.ntmps28
  go_wp2_with fail
  generalize World.alloc _ _ = w0 at H0 ⊢
  refine (HS.out _).mono ?_
  rintro e w1 ⟨rfl, hb⟩
  have H1 := Lib.hid (Two.below H0.out hb)
  have R1 := Lib.hid (HR1.out _ H1.out)
  obtain ⟨ad, rfl, _, e0, e1⟩ := HR.out _ H1.out
  obtain ⟨c0, c1, c2, c3, c4, d0, d1, hlt, hbb⟩ := id H1.out
  have hlt0 : w.heap.size < w1.heap.size := by omega
  have RA := Lib.hid fun o => (R1.out.alloc (Nat.le_refl _) o).more (show w1.heap.size ≤ (w1.alloc o).heap.size by simp)
  have HB := Lib.hid fun o => hbb.alloc hbb.size o
  clear H0 hb HR HR1
  go_wp2
  go_ret2
  exact ⟨_, cap, rfl, RA.out _, HB.out _, .inl rfl⟩

include hm hn hok hfit hns hj hr hz in
set_option maxRecDepth 100000 in
set_option maxHeartbeats 2000000 in
theorem ract_close_0 (hc : conv ≤ (j : Int)) (h1 : s = 1) (h2 : p = 0) :
    Calls Try.prog 28 #[.agg #[.int .i64 conv, .int .i64 soft, .int .i64 seq, .int .i64 size, .int .i64 opn], .slice A n cap, .int .i64 5, .agg #[.int .i64 j, .int .i64 off]] w fun e w' => GivesR A w w' e n (act conv soft seq size opn L 5 j off) := by
  have H0 := Lib.hid (Two.new w conv soft seq size opn (j : Int) off 23 40)
  have hsm := hok.some
  obtain ⟨q1, q2, q3, q4, q5⟩ := id hsm
  have hh : hasB conv seq (j : Int) = true := has_yes ⟨by omega, by omega⟩
  rw [show act conv soft seq size opn L 5 j off = (L.set j (0, 0), 0) from act_at (by decide) (by decide) hh (fun h => absurd h (by decide)) hz (by subst h1 h2; rfl)]
  have HS := Lib.hid fun w => rsectors_any conv soft seq size opn (j : Int) w hsm
  have HWi := Lib.hid fun s' p' w' (h : Rd w' w'.heap.size A (zc L)) => rwith_any A n cap L j s' p' w' hm hn hj h
  have HOp := Lib.hid fun w' (h : Rd w' w'.heap.size A (zc L)) q => (ropened_any A n cap L (w'.drewN q) (by simp only [maxLen]; omega) hn w'.heap.size (h.drewN q)).mono fun e w2 (hp : e = .returned (.int .i64 (cnt L)) ∧ w'.drewN q = w2) => (⟨hp.1, hp.2.symm⟩ : e = .returned (.int .i64 (cnt L)) ∧ w2 = w'.drewN q)
  have HR := Lib.hid fun w' (h : Two w w' conv soft seq size opn (j : Int) off) => (hr.one h.one).zone hz
  have HR1 := Lib.hid fun w' (h : Two w w' conv soft seq size opn (j : Int) off) => hr.one h.one
  have hjI : (j : Int) < (n : Int) := by omega
  have HNS := Lib.hid hns
  have _hf := hfit.1
  clear _hf
  have hs : sectors conv soft seq size (j : Int) = size := by unfold sectors; rw [if_neg (by omega), if_neg (by omega)]
  rw [hs] at HS
  have hsz : (size == 0) = false := by simp; omega
  have hsf : decide ((j : Int) < conv) = false := decide_eq_false (by omega)
  subst h1 h2
  clear hok hsm hfit hns hr hz hh hn
  go_enter Try.func28, Try.ntmps28
  go_wp2_with fail
  generalize World.alloc _ _ = w0 at H0 ⊢
  refine (HS.out _).mono ?_
  rintro e w1 ⟨rfl, hb⟩
  have H1 := Lib.hid (Two.below H0.out hb)
  have R1 := Lib.hid (HR1.out _ H1.out)
  obtain ⟨ad, rfl, _, e0, e1⟩ := HR.out _ H1.out
  obtain ⟨c0, c1, c2, c3, c4, d0, d1, hlt, hbb⟩ := id H1.out
  have hlt0 : w.heap.size < w1.heap.size := by omega
  have RA := Lib.hid fun o => (R1.out.alloc (Nat.le_refl _) o).more (show w1.heap.size ≤ (w1.alloc o).heap.size by simp)
  have HB := Lib.hid fun o => hbb.alloc hbb.size o
  clear H0 hb HR HR1
  go_wp2_with fail
  refine (HWi.out _ _ _ (RA.out _)).mono ?_
  rintro e w3 ⟨g, c, rfl, hown, hb⟩
  have RW := Lib.hid (Rd.own hown)
  have PW := Lib.hid (prov_own hown (HB.out _).size)
  have BW := Lib.hid (bthen (HB.out _) hb)
  clear hown hb
  go_wp2
  go_ret2
  exact ⟨_, c, rfl, RW.out, BW.out, .inr PW.out⟩

include hm hn hok hfit hns hj hr hz in
set_option maxRecDepth 100000 in
set_option maxHeartbeats 2000000 in
theorem ract_close_1 (hc : conv ≤ (j : Int)) (h1 : s = 1) (h2 : ¬ p = 0) :
    Calls Try.prog 28 #[.agg #[.int .i64 conv, .int .i64 soft, .int .i64 seq, .int .i64 size, .int .i64 opn], .slice A n cap, .int .i64 5, .agg #[.int .i64 j, .int .i64 off]] w fun e w' => GivesR A w w' e n (act conv soft seq size opn L 5 j off) := by
  have H0 := Lib.hid (Two.new w conv soft seq size opn (j : Int) off 23 40)
  have hsm := hok.some
  obtain ⟨q1, q2, q3, q4, q5⟩ := id hsm
  have hh : hasB conv seq (j : Int) = true := has_yes ⟨by omega, by omega⟩
  rw [show act conv soft seq size opn L 5 j off = (L.set j (2, p), 0) from act_at (by decide) (by decide) hh (fun h => absurd h (by decide)) hz (by subst h1; show closeZ (1, p) = _; unfold closeZ rest; rw [if_pos rfl, if_neg h2])]
  have HS := Lib.hid fun w => rsectors_any conv soft seq size opn (j : Int) w hsm
  have HWi := Lib.hid fun s' p' w' (h : Rd w' w'.heap.size A (zc L)) => rwith_any A n cap L j s' p' w' hm hn hj h
  have HOp := Lib.hid fun w' (h : Rd w' w'.heap.size A (zc L)) q => (ropened_any A n cap L (w'.drewN q) (by simp only [maxLen]; omega) hn w'.heap.size (h.drewN q)).mono fun e w2 (hp : e = .returned (.int .i64 (cnt L)) ∧ w'.drewN q = w2) => (⟨hp.1, hp.2.symm⟩ : e = .returned (.int .i64 (cnt L)) ∧ w2 = w'.drewN q)
  have HR := Lib.hid fun w' (h : Two w w' conv soft seq size opn (j : Int) off) => (hr.one h.one).zone hz
  have HR1 := Lib.hid fun w' (h : Two w w' conv soft seq size opn (j : Int) off) => hr.one h.one
  have hjI : (j : Int) < (n : Int) := by omega
  have HNS := Lib.hid hns
  have _hf := hfit.1
  clear _hf
  have hs : sectors conv soft seq size (j : Int) = size := by unfold sectors; rw [if_neg (by omega), if_neg (by omega)]
  rw [hs] at HS
  have hsz : (size == 0) = false := by simp; omega
  have hsf : decide ((j : Int) < conv) = false := decide_eq_false (by omega)
  subst h1
  have hd : (p == 0) = false := by simpa using h2
  clear hok hsm hfit hns hr hz hh hn
  go_enter Try.func28, Try.ntmps28
  go_wp2_with fail
  generalize World.alloc _ _ = w0 at H0 ⊢
  refine (HS.out _).mono ?_
  rintro e w1 ⟨rfl, hb⟩
  have H1 := Lib.hid (Two.below H0.out hb)
  have R1 := Lib.hid (HR1.out _ H1.out)
  obtain ⟨ad, rfl, _, e0, e1⟩ := HR.out _ H1.out
  obtain ⟨c0, c1, c2, c3, c4, d0, d1, hlt, hbb⟩ := id H1.out
  have hlt0 : w.heap.size < w1.heap.size := by omega
  have RA := Lib.hid fun o => (R1.out.alloc (Nat.le_refl _) o).more (show w1.heap.size ≤ (w1.alloc o).heap.size by simp)
  have HB := Lib.hid fun o => hbb.alloc hbb.size o
  clear H0 hb HR HR1
  go_wp2_with fail
  refine (HWi.out _ _ _ (RA.out _)).mono ?_
  rintro e w3 ⟨g, c, rfl, hown, hb⟩
  have RW := Lib.hid (Rd.own hown)
  have PW := Lib.hid (prov_own hown (HB.out _).size)
  have BW := Lib.hid (bthen (HB.out _) hb)
  clear hown hb
  go_wp2
  go_ret2
  exact ⟨_, c, rfl, RW.out, BW.out, .inr PW.out⟩

include hm hn hok hfit hns hj hr hz in
set_option maxRecDepth 100000 in
set_option maxHeartbeats 2000000 in
theorem ract_finish_no (hc : conv ≤ (j : Int)) (h1 : s = 3) :
    Calls Try.prog 28 #[.agg #[.int .i64 conv, .int .i64 soft, .int .i64 seq, .int .i64 size, .int .i64 opn], .slice A n cap, .int .i64 3, .agg #[.int .i64 j, .int .i64 off]] w fun e w' => GivesR A w w' e n (act conv soft seq size opn L 3 j off) := by
  have H0 := Lib.hid (Two.new w conv soft seq size opn (j : Int) off 23 40)
  have hsm := hok.some
  obtain ⟨q1, q2, q3, q4, q5⟩ := id hsm
  have hh : hasB conv seq (j : Int) = true := has_yes ⟨by omega, by omega⟩
  rw [show act conv soft seq size opn L 3 j off = (L, 3) from act_err_at (by decide) (by decide) hh (fun h => absurd h (by decide)) hz (by show finishZ (s, p) = _; exact if_pos (.inr h1))]
  have HS := Lib.hid fun w => rsectors_any conv soft seq size opn (j : Int) w hsm
  have HWi := Lib.hid fun s' p' w' (h : Rd w' w'.heap.size A (zc L)) => rwith_any A n cap L j s' p' w' hm hn hj h
  have HOp := Lib.hid fun w' (h : Rd w' w'.heap.size A (zc L)) q => (ropened_any A n cap L (w'.drewN q) (by simp only [maxLen]; omega) hn w'.heap.size (h.drewN q)).mono fun e w2 (hp : e = .returned (.int .i64 (cnt L)) ∧ w'.drewN q = w2) => (⟨hp.1, hp.2.symm⟩ : e = .returned (.int .i64 (cnt L)) ∧ w2 = w'.drewN q)
  have HR := Lib.hid fun w' (h : Two w w' conv soft seq size opn (j : Int) off) => (hr.one h.one).zone hz
  have HR1 := Lib.hid fun w' (h : Two w w' conv soft seq size opn (j : Int) off) => hr.one h.one
  have hjI : (j : Int) < (n : Int) := by omega
  have HNS := Lib.hid hns
  have _hf := hfit.1
  clear _hf
  have hs : sectors conv soft seq size (j : Int) = size := by unfold sectors; rw [if_neg (by omega), if_neg (by omega)]
  rw [hs] at HS
  have hsz : (size == 0) = false := by simp; omega
  have hsf : decide ((j : Int) < conv) = false := decide_eq_false (by omega)
  subst h1
  clear hok hsm hfit hns hr hz hh hn
  go_enter Try.func28, Try.ntmps28
  go_wp2_with fail
  generalize World.alloc _ _ = w0 at H0 ⊢
  refine (HS.out _).mono ?_
  rintro e w1 ⟨rfl, hb⟩
  have H1 := Lib.hid (Two.below H0.out hb)
  have R1 := Lib.hid (HR1.out _ H1.out)
  obtain ⟨ad, rfl, _, e0, e1⟩ := HR.out _ H1.out
  obtain ⟨c0, c1, c2, c3, c4, d0, d1, hlt, hbb⟩ := id H1.out
  have hlt0 : w.heap.size < w1.heap.size := by omega
  have RA := Lib.hid fun o => (R1.out.alloc (Nat.le_refl _) o).more (show w1.heap.size ≤ (w1.alloc o).heap.size by simp)
  have HB := Lib.hid fun o => hbb.alloc hbb.size o
  clear H0 hb HR HR1
  go_wp2
  go_ret2
  exact ⟨_, cap, rfl, RA.out _, HB.out _, .inl rfl⟩

include hm hn hok hfit hns hj hr hz in
set_option maxRecDepth 100000 in
set_option maxHeartbeats 2000000 in
theorem ract_finish (hc : conv ≤ (j : Int)) (h1 : ¬ s = 3) :
    Calls Try.prog 28 #[.agg #[.int .i64 conv, .int .i64 soft, .int .i64 seq, .int .i64 size, .int .i64 opn], .slice A n cap, .int .i64 3, .agg #[.int .i64 j, .int .i64 off]] w fun e w' => GivesR A w w' e n (act conv soft seq size opn L 3 j off) := by
  have H0 := Lib.hid (Two.new w conv soft seq size opn (j : Int) off 23 40)
  have hsm := hok.some
  obtain ⟨q1, q2, q3, q4, q5⟩ := id hsm
  have hh : hasB conv seq (j : Int) = true := has_yes ⟨by omega, by omega⟩
  rw [show act conv soft seq size opn L 3 j off = (L.set j (3, p), 0) from act_at (by decide) (by decide) hh (fun h => absurd h (by decide)) hz (by have := fit_at hfit hz; unfold fitZ at this; dsimp only at this; show finishZ (s, p) = _; exact if_neg (by first | omega | (dsimp only; omega)))]
  have HS := Lib.hid fun w => rsectors_any conv soft seq size opn (j : Int) w hsm
  have HWi := Lib.hid fun s' p' w' (h : Rd w' w'.heap.size A (zc L)) => rwith_any A n cap L j s' p' w' hm hn hj h
  have HOp := Lib.hid fun w' (h : Rd w' w'.heap.size A (zc L)) q => (ropened_any A n cap L (w'.drewN q) (by simp only [maxLen]; omega) hn w'.heap.size (h.drewN q)).mono fun e w2 (hp : e = .returned (.int .i64 (cnt L)) ∧ w'.drewN q = w2) => (⟨hp.1, hp.2.symm⟩ : e = .returned (.int .i64 (cnt L)) ∧ w2 = w'.drewN q)
  have HR := Lib.hid fun w' (h : Two w w' conv soft seq size opn (j : Int) off) => (hr.one h.one).zone hz
  have HR1 := Lib.hid fun w' (h : Two w w' conv soft seq size opn (j : Int) off) => hr.one h.one
  have hjI : (j : Int) < (n : Int) := by omega
  have HNS := Lib.hid hns
  have _hf := hfit.1
  clear _hf
  have hs : sectors conv soft seq size (j : Int) = size := by unfold sectors; rw [if_neg (by omega), if_neg (by omega)]
  rw [hs] at HS
  have hsz : (size == 0) = false := by simp; omega
  have hsf : decide ((j : Int) < conv) = false := decide_eq_false (by omega)
  have hd : (s == 3) = false := by simpa using h1
  clear hok hsm hfit hns hr hz hh hn
  go_enter Try.func28, Try.ntmps28
  go_wp2_with fail
  generalize World.alloc _ _ = w0 at H0 ⊢
  refine (HS.out _).mono ?_
  rintro e w1 ⟨rfl, hb⟩
  have H1 := Lib.hid (Two.below H0.out hb)
  have R1 := Lib.hid (HR1.out _ H1.out)
  obtain ⟨ad, rfl, _, e0, e1⟩ := HR.out _ H1.out
  obtain ⟨c0, c1, c2, c3, c4, d0, d1, hlt, hbb⟩ := id H1.out
  have hlt0 : w.heap.size < w1.heap.size := by omega
  have RA := Lib.hid fun o => (R1.out.alloc (Nat.le_refl _) o).more (show w1.heap.size ≤ (w1.alloc o).heap.size by simp)
  have HB := Lib.hid fun o => hbb.alloc hbb.size o
  clear H0 hb HR HR1
  go_wp2_with fail
  refine (HWi.out _ _ _ (RA.out _)).mono ?_
  rintro e w3 ⟨g, c, rfl, hown, hb⟩
  have RW := Lib.hid (Rd.own hown)
  have PW := Lib.hid (prov_own hown (HB.out _).size)
  have BW := Lib.hid (bthen (HB.out _) hb)
  clear hown hb
  go_wp2
  go_ret2
  exact ⟨_, c, rfl, RW.out, BW.out, .inr PW.out⟩

end
end Go.Proofs.Ytkdhibjmfanhcaa

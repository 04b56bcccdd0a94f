/-
  Package lane: Fits, Moves.
-/
import Derived.Test.YtbhcemipjfdemaaLaD
namespace Go.Proofs.Ytbhcemipjfdemaa
open Go.RowKit Geom Leaf Pol
set_option linter.unusedVariables false

namespace Pol
theorem fits_none {conv size : Int} {p : PS} {a b : Nat} (h : planX conv size (List.replicate a 0 ++ List.replicate b 2) p = none) : fitsB conv size p a b = false := by unfold fitsB; rw [h]
theorem fits_some {conv size : Int} {p q : PS} {a b : Nat} {l : List (Int × Int)} (h : planX conv size (List.replicate a 0 ++ List.replicate b 2) p = some (l, q)) : fitsB conv size p a b = decide (keepN conv size q ≤ (fr conv q : Int)) := by unfold fitsB; rw [h]
theorem keep_one (conv size : Int) (p : PS) : keepN conv size p = 1 ∨ keepN conv size p = 2 := by unfold keepN; split <;> simp
theorem rep_lt {a b s : Nat} (hs : s < 3) : ∀ x ∈ List.replicate a s ++ List.replicate b 2, x < 3 := by
  intro x hx
  rcases List.mem_append.1 hx with h | h
  · rw [List.eq_of_mem_replicate h]; exact hs
  · rw [List.eq_of_mem_replicate h]; omega
end Pol
section
variable (conv soft seq size opn : Int) (A : Option Addr) (n cap : Nat) (p : PS)
set_option maxRecDepth 100000 in
set_option maxHeartbeats 8000000 in
theorem lfits_any (a b : Nat) (w : World) (hm : n ≤ 64) (hn : p.ps.length = n) (S : Some conv seq size) (R : Rt conv seq size p) (ha : a ≤ 10000) (hb : b ≤ 10000) (hr : Rd w w.heap.size A (is p.ps)) :
    Calls Try.prog 21 #[pgv conv soft seq size opn, ppv A n cap p.h0 p.h1 p.h2, .int .i64 a, .int .i64 b] w fun e w' => e = .returned (.bool (fitsB conv size p a b)) ∧ Below w.heap.size w w' := by
  have H0 := Lib.hid (GP.new w conv soft seq size opn A n cap p.h0 p.h1 p.h2 23 27)
  have HB := Lib.hid fun w' (h : GP w w' conv soft seq size opn A n cap p.h0 p.h1 p.h2) => lbehind_any conv soft seq size opn A n cap p 0 a b w' hm hn S R (by omega) ha hb (hr.gp h)
  have HQ : Hid (∀ l q, planX conv size (List.replicate a 0 ++ List.replicate b 2) p = some (l, q) → Rt conv seq size q ∧ q.ps.length = n) := Lib.hid fun l q h => by
    have := plan_rt S _ p R (rep_lt (by omega)) l q h
    exact ⟨this.1, this.2.1.trans hn⟩
  have HS := Lib.hid S
  have HM := Lib.hid hm
  clear hr S R hn hm
  generalize p.h0 = h0 at *
  generalize p.h1 = h1 at *
  generalize p.h2 = h2 at *
  go_enter Try.func21, Try.ntmps21
  go_wp2_with fail
  generalize World.alloc _ _ = w0 at H0 ⊢
  obtain ⟨c0, c1, c2, c3, c4, cl⟩ := id H0.out.1
  obtain ⟨a0, a1, a2, a3, al⟩ := id H0.out.2.1
  go_wp2_with fail
  refine (HB.out _ H0.out).mono ?_
  rintro e w5 (⟨hres, g5, p5, rfl, hb5⟩ | ⟨l, q, hres, g5, p5, rfl, hrd, hb5⟩)
  · have H5 := Lib.hid (GP.below H0.out hb5)
    have HV := Lib.hid (fits_none hres)
    clear hb5 hres c0 c1 c2 c3 c4 cl a0 a1 a2 a3 al H0 HB
    go_wp2_with (first
      | ((with_reducible refine wpList_pool_alloc (o := ⟨_, .alloc _, _, _, _, _⟩) rfl rfl ?_); intro u2 xb hu2 hs2; clear hs2)
      | ((with_reducible refine wpList_pool_store (o := ⟨none, .store _ _ _, _, _, _, _⟩) rfl _ _ rfl _ (some ⟨g5, 0, none⟩) none n 0 p5 0 h0 h1 h2 0 0 0 rfl rfl xb ?_); intro u4 xd hu4; have hv1 := hu2.grown hu4 hu2.size (fun k hk => by injection hk with hk; omega); have H6 := Lib.hid (GP.below H5.out hv1); clear xb hu2 hu4 hv1 xd; generalize w5.heap.size = bx)
      | fail)
    go_quiet (fail)
    have H7 := Lib.hid (below_draws H6.out.2.2 nq)
    go_wp2
    go_ret
    exact ⟨ret_bool HV.out, H7.out⟩
  · have H5 := Lib.hid (GP.below H0.out hb5)
    have R5 := Lib.hid hrd
    have HV := Lib.hid (fits_some hres)
    obtain ⟨hq1, hq2⟩ := HQ.out l q hres
    have HKe := Lib.hid fun w' A' c' h => lkeep_any conv soft seq size opn A' n c' q w' HM.out hq2 HS.out hq1 h
    have HFr := Lib.hid fun w' A' c' h => lfree_any conv soft seq size opn A' n c' q w' HM.out hq2 HS.out h
    have hk12 := keep_one conv size q
    have hfl : fr conv q ≤ 64 := Nat.le_trans (fr_le conv n q hq2) HM.out
    generalize keepN conv size q = kp at *
    generalize fr conv q = f at *
    generalize hk0 : q.h0 = k0 at *
    generalize hk1 : q.h1 = k1 at *
    generalize hk2 : q.h2 = k2 at *
    clear hb5 hres hq1 hq2 hrd c0 c1 c2 c3 c4 cl a0 a1 a2 a3 al H0 HB hk0 hk1 hk2
    go_wp2_with (first
      | ((with_reducible refine wpList_pool_alloc (o := ⟨_, .alloc _, _, _, _, _⟩) rfl rfl ?_); intro u2 xb hu2 hs2; clear hs2)
      | ((with_reducible refine wpList_pool_store (o := ⟨none, .store _ _ _, _, _, _, _⟩) rfl _ _ rfl _ (some ⟨g5, 0, none⟩) none n 0 p5 0 k0 k1 k2 0 0 0 rfl rfl xb ?_); intro u4 xd hu4; have hv1 := hu2.grown hu4 hu2.size (fun k hk => by injection hk with hk; omega); have H6 := Lib.hid (GP.below H5.out hv1); have R6 := Lib.hid ((R5.out.below hv1).more hv1.size); have X6 := Lib.hid xd; clear xb hu2 hu4 hv1 xd; generalize w5.heap.size = bx at X6 ⊢)
      | fail)
    have RD := Lib.hid fun w' (h : Below u4.heap.size u4 w') => (R6.out.below h).more h.size
    have SO := Lib.hid fun w' (h : Below u4.heap.size u4 w') => (fun (g : GP w w' conv soft seq size opn A n cap h0 h1 h2) (x : Box w' bx 27 (plcs (some ⟨g5, 0, none⟩) n p5 k0 k1 k2)) => (⟨g.1.1, g.1.2.1, g.1.2.2.1, g.1.2.2.2.1, g.1.2.2.2.2.1, x.cell 0, x.cell 1, x.cell 2, x.cell 3⟩ :
      w'.cell? ⟨w.heap.size, 0, none⟩ = some (.int .i64 conv) ∧ w'.cell? ⟨w.heap.size, 1, none⟩ = some (.int .i64 soft) ∧ w'.cell? ⟨w.heap.size, 2, none⟩ = some (.int .i64 seq) ∧ w'.cell? ⟨w.heap.size, 3, none⟩ = some (.int .i64 size) ∧ w'.cell? ⟨w.heap.size, 4, none⟩ = some (.int .i64 opn) ∧ w'.cell? ⟨bx, 0, none⟩ = some (.slice (some ⟨g5, 0, none⟩) n p5) ∧ w'.cell? ⟨bx, 1, none⟩ = some (.int .i64 k0) ∧ w'.cell? ⟨bx, 2, none⟩ = some (.int .i64 k1) ∧ w'.cell? ⟨bx, 3, none⟩ = some (.int .i64 k2))) (GP.below H6.out h) (X6.out.on h)
    go_region_held3 (fun w' => w'.cell? ⟨w.heap.size, 0, none⟩ = some (.int .i64 conv) ∧ w'.cell? ⟨w.heap.size, 1, none⟩ = some (.int .i64 soft) ∧ w'.cell? ⟨w.heap.size, 2, none⟩ = some (.int .i64 seq) ∧ w'.cell? ⟨w.heap.size, 3, none⟩ = some (.int .i64 size) ∧ w'.cell? ⟨w.heap.size, 4, none⟩ = some (.int .i64 opn) ∧ w'.cell? ⟨bx, 0, none⟩ = some (.slice (some ⟨g5, 0, none⟩) n p5) ∧ w'.cell? ⟨bx, 1, none⟩ = some (.int .i64 k0) ∧ w'.cell? ⟨bx, 2, none⟩ = some (.int .i64 k1) ∧ w'.cell? ⟨bx, 3, none⟩ = some (.int .i64 k2))
      (first | exact SO.out _ B2 | exact SO.out _ B1 | exact SO.out _ (Below.refl _ _).drew)
      ((first
        | ((with_reducible refine (HFr.out _ _ _ (RD.out _ (Below.refl _ _).drew)).mono ?_); rintro e y1 ⟨A1, q1, rfl, b1⟩; have B1 : Below u4.heap.size u4 y1 := bthen (Below.refl _ _).drew b1)
        | ((with_reducible refine (HKe.out _ _ _ (RD.out _ B1)).mono ?_); rintro e y2 ⟨rfl, b2⟩; have B2 : Below u4.heap.size u4 y2 := bthen B1 b2)))
    have HF := Lib.hid (bthen H6.out.2.2 B2)
    go_wp2
    go_ret
    exact ⟨ret_bool (by rw [HV.out]), HF.out⟩
set_option maxRecDepth 100000 in
set_option maxHeartbeats 8000000 in
theorem lmoves_any (a : Nat) (w : World) (hm : n ≤ 64) (hn : p.ps.length = n) (S : Some conv seq size) (R : Rt conv seq size p) (ha : a ≤ 10000) (hr : Rd w w.heap.size A (is p.ps)) :
    Calls Try.prog 23 #[pgv conv soft seq size opn, ppv A n cap p.h0 p.h1 p.h2, .int .i64 a] w fun e w' => e = .returned (.bool (movesB conv size p a)) ∧ Below w.heap.size w w' := by
  have H0 := Lib.hid (GP.new w conv soft seq size opn A n cap p.h0 p.h1 p.h2 23 27)
  have HB := Lib.hid fun w' (h : GP w w' conv soft seq size opn A n cap p.h0 p.h1 p.h2) => lbehind_any conv soft seq size opn A n cap p 1 a 1 w' hm hn S R (by omega) ha (by omega) (hr.gp h)
  clear hr S R hn hm
  generalize p.h0 = h0 at *
  generalize p.h1 = h1 at *
  generalize p.h2 = h2 at *
  go_enter Try.func23, Try.ntmps23
  go_wp2_with fail
  generalize World.alloc _ _ = w0 at H0 ⊢
  obtain ⟨c0, c1, c2, c3, c4, cl⟩ := id H0.out.1
  obtain ⟨a0, a1, a2, a3, al⟩ := id H0.out.2.1
  go_wp2_with fail
  refine (HB.out _ H0.out).mono ?_
  rintro e w5 (⟨hres, g5, p5, rfl, hb5⟩ | ⟨l, q, hres, g5, p5, rfl, hrd, hb5⟩)
  · have H5 := Lib.hid (GP.below H0.out hb5)
    have HV : Hid (movesB conv size p a = false) := Lib.hid (by unfold movesB; rw [hres]; rfl)
    clear hb5 hres c0 c1 c2 c3 c4 cl a0 a1 a2 a3 al H0 HB
    go_wp2_with (first
      | ((with_reducible refine wpList_pool_alloc (o := ⟨_, .alloc _, _, _, _, _⟩) rfl rfl ?_); intro u2 xb hu2 hs2; clear hs2)
      | ((with_reducible refine wpList_pool_store (o := ⟨none, .store _ _ _, _, _, _, _⟩) rfl _ _ rfl _ (some ⟨g5, 0, none⟩) none n 0 p5 0 h0 h1 h2 0 0 0 rfl rfl xb ?_); intro u4 xd hu4; have hv1 := hu2.grown hu4 hu2.size (fun k hk => by injection hk with hk; omega); have H6 := Lib.hid (GP.below H5.out hv1); clear xb hu2 hu4 hv1 xd; generalize w5.heap.size = bx)
      | fail)
    go_ret
    exact ⟨ret_bool HV.out, H6.out.2.2⟩
  · have H5 := Lib.hid (GP.below H0.out hb5)
    have HV : Hid (movesB conv size p a = true) := Lib.hid (by unfold movesB; rw [hres]; rfl)
    generalize hk0 : q.h0 = k0 at *
    generalize hk1 : q.h1 = k1 at *
    generalize hk2 : q.h2 = k2 at *
    clear hb5 hres hrd c0 c1 c2 c3 c4 cl a0 a1 a2 a3 al H0 HB hk0 hk1 hk2
    go_wp2_with (first
      | ((with_reducible refine wpList_pool_alloc (o := ⟨_, .alloc _, _, _, _, _⟩) rfl rfl ?_); intro u2 xb hu2 hs2; clear hs2)
      | ((with_reducible refine wpList_pool_store (o := ⟨none, .store _ _ _, _, _, _, _⟩) rfl _ _ rfl _ (some ⟨g5, 0, none⟩) none n 0 p5 0 k0 k1 k2 0 0 0 rfl rfl xb ?_); intro u4 xd hu4; have hv1 := hu2.grown hu4 hu2.size (fun k hk => by injection hk with hk; omega); have H6 := Lib.hid (GP.below H5.out hv1); clear xb hu2 hu4 hv1 xd; generalize w5.heap.size = bx)
      | fail)
    go_ret
    exact ⟨ret_bool HV.out, H6.out.2.2⟩
end
end Go.Proofs.Ytbhcemipjfdemaa

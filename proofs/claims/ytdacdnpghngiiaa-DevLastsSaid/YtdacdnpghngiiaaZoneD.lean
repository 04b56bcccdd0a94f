/-
  What package zone does to one zone: written, and Write's closure.
-/
import Derived.Test.YtdacdnpghngiiaaZoneC
namespace Go.Proofs.Ytdacdnpghngiiaa
open Go.RowKit Geom Zone
set_option linter.unusedVariables false

theorem opened_says {s p s' p' e' : Int} {b : Bool} (h : openZ b (s, p) = ((s', p'), e')) (w : World) :
    Calls Try.prog 83 #[.agg #[.int .i64 s, .int .i64 p], .bool b] w fun e w' => e = .returned (.tuple #[.agg #[.int .i64 s', .int .i64 p'], .int .i64 e']) ∧ Below w.heap.size w w' := by
  have := opened_any s p b w
  rw [h] at this
  exact this
theorem set_at {w : World} {a : Addr} {u : Value} (h : w.cell? a = some u) (v : Value) : (w.setCell a v).cell? a = some v := World.cell?_setCell_same _ _ _ h
theorem set_off {w : World} {a b : Addr} {u : Value} (h : w.cell? b = some u) (v : Value) (hn : a ≠ b) : (w.setCell a v).cell? b = some u := (World.cell?_setCell_other _ _ _ _ hn).trans h

set_option maxHeartbeats 1000000 in
theorem written_any (s p : Int) (off size : Int) (b : Bool) (w : World) (k0 : 0 ≤ off) (k1 : off ≤ 65536) :
    Calls Try.prog 65 #[.agg #[.int .i64 s, .int .i64 p], .int .i64 off, .int .i64 size, .bool b] w fun e w' => e = .returned (.tuple #[.agg #[.int .i64 (writeZ off size b (s, p)).1.1, .int .i64 (writeZ off size b (s, p)).1.2], .int .i64 (writeZ off size b (s, p)).2]) ∧ Below w.heap.size w w' := by
  by_cases h : s = 4
  · subst h
    have HD := Lib.hid (show writeZ off size b (4, p) = ((4, p), 0) from if_pos rfl)
    rw [HD.out]
    go_enter Try.func65, Try.ntmps65
    go_wp2
    refine bodyPost_ret (v := .tuple #[.agg #[.int .i64 (4), .int .i64 (p)], .int .i64 (0)]) (by simp [results, Try.results65, go_sem]) rfl ⟨rfl, ?_⟩
    exact below_two
  by_cases h2 : s = 3
  · subst h2
    have HD := Lib.hid (show writeZ off size b (3, p) = ((3, p), 3) from (if_neg (by simp)).trans (if_pos rfl))
    rw [HD.out]
    go_enter Try.func65, Try.ntmps65
    go_wp2
    refine bodyPost_ret (v := .tuple #[.agg #[.int .i64 (3), .int .i64 (p)], .int .i64 (3)]) (by simp [results, Try.results65, go_sem]) rfl ⟨rfl, ?_⟩
    exact below_two
  have hd : (s == 4) = false := by simpa using h
  have hd2 : (s == 3) = false := by simpa using h2
  by_cases h4 : off = p
  rotate_left
  · have hd4 : (off != p) = true := by simpa using h4
    have HD := Lib.hid (show writeZ off size b (s, p) = ((s, p), 4) from (if_neg h).trans ((if_neg h2).trans (if_pos h4)))
    rw [HD.out]
    go_enter Try.func65, Try.ntmps65
    go_wp2
    refine bodyPost_ret (v := .tuple #[.agg #[.int .i64 (s), .int .i64 (p)], .int .i64 (4)]) (by simp [results, Try.results65, go_sem]) rfl ⟨rfl, ?_⟩
    exact below_two
  subst h4
  have hq := IntWalk.i64_in (off + 1) (by omega)
  by_cases h5 : s = 1
  · have HO := Lib.hid fun w => opened_says (show openZ b (s, off) = ((s, off), 0) from (if_neg (by simp; omega)).trans (if_pos h5)) w
    subst h5
    by_cases h6 : off + 1 = size
    · subst h6
      have HD := Lib.hid (show writeZ off (off + 1) b (1, off) = ((3, off + 1), 0) from (if_neg (by simp)).trans ((if_neg (by simp)).trans ((if_neg (by simp)).trans (by simp))))
      rw [HD.out]
      obtain ⟨z0, z1⟩ := new_cells w (.int .i64 1) (.int .i64 off) 45 (0, 0)
      obtain ⟨g0, g1⟩ := new_cells (w.alloc (.cells #[.int .i64 1, .int .i64 off] 45)) (.int .i64 0) (.int .i64 0) 45 (0, 0)
      rw [show (w.alloc (.cells #[.int .i64 1, .int .i64 off] 45)).heap.size = w.heap.size + 1 by simp] at g0 g1
      have y0 := (World.cell?_alloc_lt (w.alloc (.cells #[.int .i64 1, .int .i64 off] 45)) (.cells #[.int .i64 0, .int .i64 0] 45) ⟨w.heap.size, 0, none⟩ (by simp)).trans z0
      have y1 := (World.cell?_alloc_lt (w.alloc (.cells #[.int .i64 1, .int .i64 off] 45)) (.cells #[.int .i64 0, .int .i64 0] 45) ⟨w.heap.size, 1, none⟩ (by simp)).trans z1
      go_enter Try.func65, Try.ntmps65
      go_wp2_with ((with_reducible refine (HO.out _).mono ?_); rintro e w1 ⟨rfl, hb⟩; obtain ⟨hcl, hfz⟩ := bcell hb; have x0 := (hcl _ _ (by simp; omega)).trans y0; have x1 := (hcl _ _ (by simp; omega)).trans y1; have r0 := (hcl _ _ (by simp)).trans g0; have r1 := (hcl _ _ (by simp)).trans g1; clear z0 z1 g0 g1 y0 y1; have x0_0 := set_at x0 (.int .i64 (1)); have x1_0 := set_off x1 (.int .i64 (1)) (show (⟨w.heap.size, 0, none⟩ : Addr) ≠ (⟨w.heap.size, 1, none⟩ : Addr) by simp); have r0_0 := set_off r0 (.int .i64 (1)) (show (⟨w.heap.size, 0, none⟩ : Addr) ≠ (⟨w.heap.size + 1, 0, none⟩ : Addr) by simp); have r1_0 := set_off r1 (.int .i64 (1)) (show (⟨w.heap.size, 0, none⟩ : Addr) ≠ (⟨w.heap.size + 1, 1, none⟩ : Addr) by simp); have x0_1 := set_off x0_0 (.int .i64 (off)) (show (⟨w.heap.size, 1, none⟩ : Addr) ≠ (⟨w.heap.size, 0, none⟩ : Addr) by simp); have x1_1 := set_at x1_0 (.int .i64 (off)); have r0_1 := set_off r0_0 (.int .i64 (off)) (show (⟨w.heap.size, 1, none⟩ : Addr) ≠ (⟨w.heap.size + 1, 0, none⟩ : Addr) by simp); have r1_1 := set_off r1_0 (.int .i64 (off)) (show (⟨w.heap.size, 1, none⟩ : Addr) ≠ (⟨w.heap.size + 1, 1, none⟩ : Addr) by simp); have x0_2 := set_off x0_1 (.int .i64 (off + 1)) (show (⟨w.heap.size, 1, none⟩ : Addr) ≠ (⟨w.heap.size, 0, none⟩ : Addr) by simp); have x1_2 := set_at x1_1 (.int .i64 (off + 1)); have r0_2 := set_off r0_1 (.int .i64 (off + 1)) (show (⟨w.heap.size, 1, none⟩ : Addr) ≠ (⟨w.heap.size + 1, 0, none⟩ : Addr) by simp); have r1_2 := set_off r1_1 (.int .i64 (off + 1)) (show (⟨w.heap.size, 1, none⟩ : Addr) ≠ (⟨w.heap.size + 1, 1, none⟩ : Addr) by simp); have x0_3 := set_at x0_2 (.int .i64 (3)); have x1_3 := set_off x1_2 (.int .i64 (3)) (show (⟨w.heap.size, 0, none⟩ : Addr) ≠ (⟨w.heap.size, 1, none⟩ : Addr) by simp); have r0_3 := set_off r0_2 (.int .i64 (3)) (show (⟨w.heap.size, 0, none⟩ : Addr) ≠ (⟨w.heap.size + 1, 0, none⟩ : Addr) by simp); have r1_3 := set_off r1_2 (.int .i64 (3)) (show (⟨w.heap.size, 0, none⟩ : Addr) ≠ (⟨w.heap.size + 1, 1, none⟩ : Addr) by simp); have x0_4 := set_off x0_3 (.int .i64 (3)) (show (⟨w.heap.size + 1, 0, none⟩ : Addr) ≠ (⟨w.heap.size, 0, none⟩ : Addr) by simp); have x1_4 := set_off x1_3 (.int .i64 (3)) (show (⟨w.heap.size + 1, 0, none⟩ : Addr) ≠ (⟨w.heap.size, 1, none⟩ : Addr) by simp); have r0_4 := set_at r0_3 (.int .i64 (3)); have r1_4 := set_off r1_3 (.int .i64 (3)) (show (⟨w.heap.size + 1, 0, none⟩ : Addr) ≠ (⟨w.heap.size + 1, 1, none⟩ : Addr) by simp); have x0_5 := set_off x0_4 (.int .i64 (off + 1)) (show (⟨w.heap.size + 1, 1, none⟩ : Addr) ≠ (⟨w.heap.size, 0, none⟩ : Addr) by simp); have x1_5 := set_off x1_4 (.int .i64 (off + 1)) (show (⟨w.heap.size + 1, 1, none⟩ : Addr) ≠ (⟨w.heap.size, 1, none⟩ : Addr) by simp); have r0_5 := set_off r0_4 (.int .i64 (off + 1)) (show (⟨w.heap.size + 1, 1, none⟩ : Addr) ≠ (⟨w.heap.size + 1, 0, none⟩ : Addr) by simp); have r1_5 := set_at r1_4 (.int .i64 (off + 1)); clear x1_0 r0_0 r1_0 x0_1 r0_1 r1_1 x0_2 r0_2 r1_2 x1_3 r0_3 r1_3 x0_4 x1_4 r1_4 x0_5 x1_5 r0_5)
      refine bodyPost_ret (v := .tuple #[.agg #[.int .i64 (3), .int .i64 (off + 1)], .int .i64 (0)]) (by simp [results, Try.results65, go_sem, r0_4, r1_5]) rfl ⟨rfl, ?_⟩
      exact (((((((below_two.trans (hb.mono (by simp; omega))).setCell (by simp) _).setCell (by simp) _).setCell (by simp) _).setCell (by simp) _).setCell (by simp) _).setCell (by simp) _)
    · have hd6 : (off + 1 == size) = false := by simpa using h6
      have HD := Lib.hid (show writeZ off size b (1, off) = ((1, off + 1), 0) from (if_neg (by simp)).trans ((if_neg (by simp)).trans ((if_neg (by simp)).trans (by simp [h6]))))
      rw [HD.out]
      obtain ⟨z0, z1⟩ := new_cells w (.int .i64 1) (.int .i64 off) 45 (0, 0)
      obtain ⟨g0, g1⟩ := new_cells (w.alloc (.cells #[.int .i64 1, .int .i64 off] 45)) (.int .i64 0) (.int .i64 0) 45 (0, 0)
      rw [show (w.alloc (.cells #[.int .i64 1, .int .i64 off] 45)).heap.size = w.heap.size + 1 by simp] at g0 g1
      have y0 := (World.cell?_alloc_lt (w.alloc (.cells #[.int .i64 1, .int .i64 off] 45)) (.cells #[.int .i64 0, .int .i64 0] 45) ⟨w.heap.size, 0, none⟩ (by simp)).trans z0
      have y1 := (World.cell?_alloc_lt (w.alloc (.cells #[.int .i64 1, .int .i64 off] 45)) (.cells #[.int .i64 0, .int .i64 0] 45) ⟨w.heap.size, 1, none⟩ (by simp)).trans z1
      go_enter Try.func65, Try.ntmps65
      go_wp2_with ((with_reducible refine (HO.out _).mono ?_); rintro e w1 ⟨rfl, hb⟩; obtain ⟨hcl, hfz⟩ := bcell hb; have x0 := (hcl _ _ (by simp; omega)).trans y0; have x1 := (hcl _ _ (by simp; omega)).trans y1; have r0 := (hcl _ _ (by simp)).trans g0; have r1 := (hcl _ _ (by simp)).trans g1; clear z0 z1 g0 g1 y0 y1; have x0_0 := set_at x0 (.int .i64 (1)); have x1_0 := set_off x1 (.int .i64 (1)) (show (⟨w.heap.size, 0, none⟩ : Addr) ≠ (⟨w.heap.size, 1, none⟩ : Addr) by simp); have r0_0 := set_off r0 (.int .i64 (1)) (show (⟨w.heap.size, 0, none⟩ : Addr) ≠ (⟨w.heap.size + 1, 0, none⟩ : Addr) by simp); have r1_0 := set_off r1 (.int .i64 (1)) (show (⟨w.heap.size, 0, none⟩ : Addr) ≠ (⟨w.heap.size + 1, 1, none⟩ : Addr) by simp); have x0_1 := set_off x0_0 (.int .i64 (off)) (show (⟨w.heap.size, 1, none⟩ : Addr) ≠ (⟨w.heap.size, 0, none⟩ : Addr) by simp); have x1_1 := set_at x1_0 (.int .i64 (off)); have r0_1 := set_off r0_0 (.int .i64 (off)) (show (⟨w.heap.size, 1, none⟩ : Addr) ≠ (⟨w.heap.size + 1, 0, none⟩ : Addr) by simp); have r1_1 := set_off r1_0 (.int .i64 (off)) (show (⟨w.heap.size, 1, none⟩ : Addr) ≠ (⟨w.heap.size + 1, 1, none⟩ : Addr) by simp); have x0_2 := set_off x0_1 (.int .i64 (off + 1)) (show (⟨w.heap.size, 1, none⟩ : Addr) ≠ (⟨w.heap.size, 0, none⟩ : Addr) by simp); have x1_2 := set_at x1_1 (.int .i64 (off + 1)); have r0_2 := set_off r0_1 (.int .i64 (off + 1)) (show (⟨w.heap.size, 1, none⟩ : Addr) ≠ (⟨w.heap.size + 1, 0, none⟩ : Addr) by simp); have r1_2 := set_off r1_1 (.int .i64 (off + 1)) (show (⟨w.heap.size, 1, none⟩ : Addr) ≠ (⟨w.heap.size + 1, 1, none⟩ : Addr) by simp); have x0_3 := set_off x0_2 (.int .i64 (1)) (show (⟨w.heap.size + 1, 0, none⟩ : Addr) ≠ (⟨w.heap.size, 0, none⟩ : Addr) by simp); have x1_3 := set_off x1_2 (.int .i64 (1)) (show (⟨w.heap.size + 1, 0, none⟩ : Addr) ≠ (⟨w.heap.size, 1, none⟩ : Addr) by simp); have r0_3 := set_at r0_2 (.int .i64 (1)); have r1_3 := set_off r1_2 (.int .i64 (1)) (show (⟨w.heap.size + 1, 0, none⟩ : Addr) ≠ (⟨w.heap.size + 1, 1, none⟩ : Addr) by simp); have x0_4 := set_off x0_3 (.int .i64 (off + 1)) (show (⟨w.heap.size + 1, 1, none⟩ : Addr) ≠ (⟨w.heap.size, 0, none⟩ : Addr) by simp); have x1_4 := set_off x1_3 (.int .i64 (off + 1)) (show (⟨w.heap.size + 1, 1, none⟩ : Addr) ≠ (⟨w.heap.size, 1, none⟩ : Addr) by simp); have r0_4 := set_off r0_3 (.int .i64 (off + 1)) (show (⟨w.heap.size + 1, 1, none⟩ : Addr) ≠ (⟨w.heap.size + 1, 0, none⟩ : Addr) by simp); have r1_4 := set_at r1_3 (.int .i64 (off + 1)); clear x1_0 r0_0 r1_0 x0_1 r0_1 r1_1 x0_2 r0_2 r1_2 x0_3 x1_3 r1_3 x0_4 x1_4 r0_4)
      refine bodyPost_ret (v := .tuple #[.agg #[.int .i64 (1), .int .i64 (off + 1)], .int .i64 (0)]) (by simp [results, Try.results65, go_sem, r0_3, r1_4]) rfl ⟨rfl, ?_⟩
      exact ((((((below_two.trans (hb.mono (by simp; omega))).setCell (by simp) _).setCell (by simp) _).setCell (by simp) _).setCell (by simp) _).setCell (by simp) _)
  have hd5 : (s == 1) = false := by simpa using h5
  cases b
  · have HO := Lib.hid fun w => opened_says (show openZ false (s, off) = ((s, off), 5) from (if_neg (by simp; omega)).trans ((if_neg h5).trans (if_neg (by simp)))) w
    have HD := Lib.hid (show writeZ off size false (s, off) = ((s, off), 5) from (if_neg h).trans ((if_neg h2).trans ((if_neg (by simp)).trans (if_neg (by simp; exact h5)))))
    rw [HD.out]
    obtain ⟨z0, z1⟩ := new_cells w (.int .i64 s) (.int .i64 off) 45 (0, 0)
    obtain ⟨g0, g1⟩ := new_cells (w.alloc (.cells #[.int .i64 s, .int .i64 off] 45)) (.int .i64 0) (.int .i64 0) 45 (0, 0)
    rw [show (w.alloc (.cells #[.int .i64 s, .int .i64 off] 45)).heap.size = w.heap.size + 1 by simp] at g0 g1
    have y0 := (World.cell?_alloc_lt (w.alloc (.cells #[.int .i64 s, .int .i64 off] 45)) (.cells #[.int .i64 0, .int .i64 0] 45) ⟨w.heap.size, 0, none⟩ (by simp)).trans z0
    have y1 := (World.cell?_alloc_lt (w.alloc (.cells #[.int .i64 s, .int .i64 off] 45)) (.cells #[.int .i64 0, .int .i64 0] 45) ⟨w.heap.size, 1, none⟩ (by simp)).trans z1
    go_enter Try.func65, Try.ntmps65
    go_wp2_with ((with_reducible refine (HO.out _).mono ?_); rintro e w1 ⟨rfl, hb⟩; obtain ⟨hcl, hfz⟩ := bcell hb; have x0 := (hcl _ _ (by simp; omega)).trans y0; have x1 := (hcl _ _ (by simp; omega)).trans y1; have r0 := (hcl _ _ (by simp)).trans g0; have r1 := (hcl _ _ (by simp)).trans g1; clear z0 z1 g0 g1 y0 y1; have x0_0 := set_at x0 (.int .i64 (s)); have x1_0 := set_off x1 (.int .i64 (s)) (show (⟨w.heap.size, 0, none⟩ : Addr) ≠ (⟨w.heap.size, 1, none⟩ : Addr) by simp); have r0_0 := set_off r0 (.int .i64 (s)) (show (⟨w.heap.size, 0, none⟩ : Addr) ≠ (⟨w.heap.size + 1, 0, none⟩ : Addr) by simp); have r1_0 := set_off r1 (.int .i64 (s)) (show (⟨w.heap.size, 0, none⟩ : Addr) ≠ (⟨w.heap.size + 1, 1, none⟩ : Addr) by simp); have x0_1 := set_off x0_0 (.int .i64 (off)) (show (⟨w.heap.size, 1, none⟩ : Addr) ≠ (⟨w.heap.size, 0, none⟩ : Addr) by simp); have x1_1 := set_at x1_0 (.int .i64 (off)); have r0_1 := set_off r0_0 (.int .i64 (off)) (show (⟨w.heap.size, 1, none⟩ : Addr) ≠ (⟨w.heap.size + 1, 0, none⟩ : Addr) by simp); have r1_1 := set_off r1_0 (.int .i64 (off)) (show (⟨w.heap.size, 1, none⟩ : Addr) ≠ (⟨w.heap.size + 1, 1, none⟩ : Addr) by simp); have x0_2 := set_off x0_1 (.int .i64 (s)) (show (⟨w.heap.size + 1, 0, none⟩ : Addr) ≠ (⟨w.heap.size, 0, none⟩ : Addr) by simp); have x1_2 := set_off x1_1 (.int .i64 (s)) (show (⟨w.heap.size + 1, 0, none⟩ : Addr) ≠ (⟨w.heap.size, 1, none⟩ : Addr) by simp); have r0_2 := set_at r0_1 (.int .i64 (s)); have r1_2 := set_off r1_1 (.int .i64 (s)) (show (⟨w.heap.size + 1, 0, none⟩ : Addr) ≠ (⟨w.heap.size + 1, 1, none⟩ : Addr) by simp); have x0_3 := set_off x0_2 (.int .i64 (off)) (show (⟨w.heap.size + 1, 1, none⟩ : Addr) ≠ (⟨w.heap.size, 0, none⟩ : Addr) by simp); have x1_3 := set_off x1_2 (.int .i64 (off)) (show (⟨w.heap.size + 1, 1, none⟩ : Addr) ≠ (⟨w.heap.size, 1, none⟩ : Addr) by simp); have r0_3 := set_off r0_2 (.int .i64 (off)) (show (⟨w.heap.size + 1, 1, none⟩ : Addr) ≠ (⟨w.heap.size + 1, 0, none⟩ : Addr) by simp); have r1_3 := set_at r1_2 (.int .i64 (off)); clear x1_0 r0_0 r1_0 x0_1 r0_1 r1_1 x0_2 x1_2 r1_2 x0_3 x1_3 r0_3)
    refine bodyPost_ret (v := .tuple #[.agg #[.int .i64 (s), .int .i64 (off)], .int .i64 (5)]) (by simp [results, Try.results65, go_sem, r0_2, r1_3]) rfl ⟨rfl, ?_⟩
    exact (((((below_two.trans (hb.mono (by simp; omega))).setCell (by simp) _).setCell (by simp) _).setCell (by simp) _).setCell (by simp) _)
  · have HO := Lib.hid fun w => opened_says (show openZ true (s, off) = ((1, off), 0) from (if_neg (by simp; omega)).trans ((if_neg h5).trans (if_pos rfl))) w
    by_cases h6 : off + 1 = size
    · subst h6
      have HD := Lib.hid (show writeZ off (off + 1) true (s, off) = ((3, off + 1), 0) from (if_neg h).trans ((if_neg h2).trans ((if_neg (by simp)).trans (by simp))))
      rw [HD.out]
      obtain ⟨z0, z1⟩ := new_cells w (.int .i64 s) (.int .i64 off) 45 (0, 0)
      obtain ⟨g0, g1⟩ := new_cells (w.alloc (.cells #[.int .i64 s, .int .i64 off] 45)) (.int .i64 0) (.int .i64 0) 45 (0, 0)
      rw [show (w.alloc (.cells #[.int .i64 s, .int .i64 off] 45)).heap.size = w.heap.size + 1 by simp] at g0 g1
      have y0 := (World.cell?_alloc_lt (w.alloc (.cells #[.int .i64 s, .int .i64 off] 45)) (.cells #[.int .i64 0, .int .i64 0] 45) ⟨w.heap.size, 0, none⟩ (by simp)).trans z0
      have y1 := (World.cell?_alloc_lt (w.alloc (.cells #[.int .i64 s, .int .i64 off] 45)) (.cells #[.int .i64 0, .int .i64 0] 45) ⟨w.heap.size, 1, none⟩ (by simp)).trans z1
      go_enter Try.func65, Try.ntmps65
      go_wp2_with ((with_reducible refine (HO.out _).mono ?_); rintro e w1 ⟨rfl, hb⟩; obtain ⟨hcl, hfz⟩ := bcell hb; have x0 := (hcl _ _ (by simp; omega)).trans y0; have x1 := (hcl _ _ (by simp; omega)).trans y1; have r0 := (hcl _ _ (by simp)).trans g0; have r1 := (hcl _ _ (by simp)).trans g1; clear z0 z1 g0 g1 y0 y1; have x0_0 := set_at x0 (.int .i64 (1)); have x1_0 := set_off x1 (.int .i64 (1)) (show (⟨w.heap.size, 0, none⟩ : Addr) ≠ (⟨w.heap.size, 1, none⟩ : Addr) by simp); have r0_0 := set_off r0 (.int .i64 (1)) (show (⟨w.heap.size, 0, none⟩ : Addr) ≠ (⟨w.heap.size + 1, 0, none⟩ : Addr) by simp); have r1_0 := set_off r1 (.int .i64 (1)) (show (⟨w.heap.size, 0, none⟩ : Addr) ≠ (⟨w.heap.size + 1, 1, none⟩ : Addr) by simp); have x0_1 := set_off x0_0 (.int .i64 (off)) (show (⟨w.heap.size, 1, none⟩ : Addr) ≠ (⟨w.heap.size, 0, none⟩ : Addr) by simp); have x1_1 := set_at x1_0 (.int .i64 (off)); have r0_1 := set_off r0_0 (.int .i64 (off)) (show (⟨w.heap.size, 1, none⟩ : Addr) ≠ (⟨w.heap.size + 1, 0, none⟩ : Addr) by simp); have r1_1 := set_off r1_0 (.int .i64 (off)) (show (⟨w.heap.size, 1, none⟩ : Addr) ≠ (⟨w.heap.size + 1, 1, none⟩ : Addr) by simp); have x0_2 := set_off x0_1 (.int .i64 (off + 1)) (show (⟨w.heap.size, 1, none⟩ : Addr) ≠ (⟨w.heap.size, 0, none⟩ : Addr) by simp); have x1_2 := set_at x1_1 (.int .i64 (off + 1)); have r0_2 := set_off r0_1 (.int .i64 (off + 1)) (show (⟨w.heap.size, 1, none⟩ : Addr) ≠ (⟨w.heap.size + 1, 0, none⟩ : Addr) by simp); have r1_2 := set_off r1_1 (.int .i64 (off + 1)) (show (⟨w.heap.size, 1, none⟩ : Addr) ≠ (⟨w.heap.size + 1, 1, none⟩ : Addr) by simp); have x0_3 := set_at x0_2 (.int .i64 (3)); have x1_3 := set_off x1_2 (.int .i64 (3)) (show (⟨w.heap.size, 0, none⟩ : Addr) ≠ (⟨w.heap.size, 1, none⟩ : Addr) by simp); have r0_3 := set_off r0_2 (.int .i64 (3)) (show (⟨w.heap.size, 0, none⟩ : Addr) ≠ (⟨w.heap.size + 1, 0, none⟩ : Addr) by simp); have r1_3 := set_off r1_2 (.int .i64 (3)) (show (⟨w.heap.size, 0, none⟩ : Addr) ≠ (⟨w.heap.size + 1, 1, none⟩ : Addr) by simp); have x0_4 := set_off x0_3 (.int .i64 (3)) (show (⟨w.heap.size + 1, 0, none⟩ : Addr) ≠ (⟨w.heap.size, 0, none⟩ : Addr) by simp); have x1_4 := set_off x1_3 (.int .i64 (3)) (show (⟨w.heap.size + 1, 0, none⟩ : Addr) ≠ (⟨w.heap.size, 1, none⟩ : Addr) by simp); have r0_4 := set_at r0_3 (.int .i64 (3)); have r1_4 := set_off r1_3 (.int .i64 (3)) (show (⟨w.heap.size + 1, 0, none⟩ : Addr) ≠ (⟨w.heap.size + 1, 1, none⟩ : Addr) by simp); have x0_5 := set_off x0_4 (.int .i64 (off + 1)) (show (⟨w.heap.size + 1, 1, none⟩ : Addr) ≠ (⟨w.heap.size, 0, none⟩ : Addr) by simp); have x1_5 := set_off x1_4 (.int .i64 (off + 1)) (show (⟨w.heap.size + 1, 1, none⟩ : Addr) ≠ (⟨w.heap.size, 1, none⟩ : Addr) by simp); have r0_5 := set_off r0_4 (.int .i64 (off + 1)) (show (⟨w.heap.size + 1, 1, none⟩ : Addr) ≠ (⟨w.heap.size + 1, 0, none⟩ : Addr) by simp); have r1_5 := set_at r1_4 (.int .i64 (off + 1)); clear x1_0 r0_0 r1_0 x0_1 r0_1 r1_1 x0_2 r0_2 r1_2 x1_3 r0_3 r1_3 x0_4 x1_4 r1_4 x0_5 x1_5 r0_5)
      refine bodyPost_ret (v := .tuple #[.agg #[.int .i64 (3), .int .i64 (off + 1)], .int .i64 (0)]) (by simp [results, Try.results65, go_sem, r0_4, r1_5]) rfl ⟨rfl, ?_⟩
      exact (((((((below_two.trans (hb.mono (by simp; omega))).setCell (by simp) _).setCell (by simp) _).setCell (by simp) _).setCell (by simp) _).setCell (by simp) _).setCell (by simp) _)
    · have hd6 : (off + 1 == size) = false := by simpa using h6
      have HD := Lib.hid (show writeZ off size true (s, off) = ((1, off + 1), 0) from (if_neg h).trans ((if_neg h2).trans ((if_neg (by simp)).trans (by simp [h6]))))
      rw [HD.out]
      obtain ⟨z0, z1⟩ := new_cells w (.int .i64 s) (.int .i64 off) 45 (0, 0)
      obtain ⟨g0, g1⟩ := new_cells (w.alloc (.cells #[.int .i64 s, .int .i64 off] 45)) (.int .i64 0) (.int .i64 0) 45 (0, 0)
      rw [show (w.alloc (.cells #[.int .i64 s, .int .i64 off] 45)).heap.size = w.heap.size + 1 by simp] at g0 g1
      have y0 := (World.cell?_alloc_lt (w.alloc (.cells #[.int .i64 s, .int .i64 off] 45)) (.cells #[.int .i64 0, .int .i64 0] 45) ⟨w.heap.size, 0, none⟩ (by simp)).trans z0
      have y1 := (World.cell?_alloc_lt (w.alloc (.cells #[.int .i64 s, .int .i64 off] 45)) (.cells #[.int .i64 0, .int .i64 0] 45) ⟨w.heap.size, 1, none⟩ (by simp)).trans z1
      go_enter Try.func65, Try.ntmps65
      go_wp2_with ((with_reducible refine (HO.out _).mono ?_); rintro e w1 ⟨rfl, hb⟩; obtain ⟨hcl, hfz⟩ := bcell hb; have x0 := (hcl _ _ (by simp; omega)).trans y0; have x1 := (hcl _ _ (by simp; omega)).trans y1; have r0 := (hcl _ _ (by simp)).trans g0; have r1 := (hcl _ _ (by simp)).trans g1; clear z0 z1 g0 g1 y0 y1; have x0_0 := set_at x0 (.int .i64 (1)); have x1_0 := set_off x1 (.int .i64 (1)) (show (⟨w.heap.size, 0, none⟩ : Addr) ≠ (⟨w.heap.size, 1, none⟩ : Addr) by simp); have r0_0 := set_off r0 (.int .i64 (1)) (show (⟨w.heap.size, 0, none⟩ : Addr) ≠ (⟨w.heap.size + 1, 0, none⟩ : Addr) by simp); have r1_0 := set_off r1 (.int .i64 (1)) (show (⟨w.heap.size, 0, none⟩ : Addr) ≠ (⟨w.heap.size + 1, 1, none⟩ : Addr) by simp); have x0_1 := set_off x0_0 (.int .i64 (off)) (show (⟨w.heap.size, 1, none⟩ : Addr) ≠ (⟨w.heap.size, 0, none⟩ : Addr) by simp); have x1_1 := set_at x1_0 (.int .i64 (off)); have r0_1 := set_off r0_0 (.int .i64 (off)) (show (⟨w.heap.size, 1, none⟩ : Addr) ≠ (⟨w.heap.size + 1, 0, none⟩ : Addr) by simp); have r1_1 := set_off r1_0 (.int .i64 (off)) (show (⟨w.heap.size, 1, none⟩ : Addr) ≠ (⟨w.heap.size + 1, 1, none⟩ : Addr) by simp); have x0_2 := set_off x0_1 (.int .i64 (off + 1)) (show (⟨w.heap.size, 1, none⟩ : Addr) ≠ (⟨w.heap.size, 0, none⟩ : Addr) by simp); have x1_2 := set_at x1_1 (.int .i64 (off + 1)); have r0_2 := set_off r0_1 (.int .i64 (off + 1)) (show (⟨w.heap.size, 1, none⟩ : Addr) ≠ (⟨w.heap.size + 1, 0, none⟩ : Addr) by simp); have r1_2 := set_off r1_1 (.int .i64 (off + 1)) (show (⟨w.heap.size, 1, none⟩ : Addr) ≠ (⟨w.heap.size + 1, 1, none⟩ : Addr) by simp); have x0_3 := set_off x0_2 (.int .i64 (1)) (show (⟨w.heap.size + 1, 0, none⟩ : Addr) ≠ (⟨w.heap.size, 0, none⟩ : Addr) by simp); have x1_3 := set_off x1_2 (.int .i64 (1)) (show (⟨w.heap.size + 1, 0, none⟩ : Addr) ≠ (⟨w.heap.size, 1, none⟩ : Addr) by simp); have r0_3 := set_at r0_2 (.int .i64 (1)); have r1_3 := set_off r1_2 (.int .i64 (1)) (show (⟨w.heap.size + 1, 0, none⟩ : Addr) ≠ (⟨w.heap.size + 1, 1, none⟩ : Addr) by simp); have x0_4 := set_off x0_3 (.int .i64 (off + 1)) (show (⟨w.heap.size + 1, 1, none⟩ : Addr) ≠ (⟨w.heap.size, 0, none⟩ : Addr) by simp); have x1_4 := set_off x1_3 (.int .i64 (off + 1)) (show (⟨w.heap.size + 1, 1, none⟩ : Addr) ≠ (⟨w.heap.size, 1, none⟩ : Addr) by simp); have r0_4 := set_off r0_3 (.int .i64 (off + 1)) (show (⟨w.heap.size + 1, 1, none⟩ : Addr) ≠ (⟨w.heap.size + 1, 0, none⟩ : Addr) by simp); have r1_4 := set_at r1_3 (.int .i64 (off + 1)); clear x1_0 r0_0 r1_0 x0_1 r0_1 r1_1 x0_2 r0_2 r1_2 x0_3 x1_3 r1_3 x0_4 x1_4 r0_4)
      refine bodyPost_ret (v := .tuple #[.agg #[.int .i64 (1), .int .i64 (off + 1)], .int .i64 (0)]) (by simp [results, Try.results65, go_sem, r0_3, r1_4]) rfl ⟨rfl, ?_⟩
      exact ((((((below_two.trans (hb.mono (by simp; omega))).setCell (by simp) _).setCell (by simp) _).setCell (by simp) _).setCell (by simp) _).setCell (by simp) _)
end Go.Proofs.Ytdacdnpghngiiaa

/-
  ZoneC ZoneD ZoneE ZoneF ZoneG
-/
import Derived.Test.YtgnpohkippegpaaGreatMg01
import Derived.Laws.StructEq
import Derived.Test.YtgnpohkippegpaaGreatMg05
import Derived.Deep.MidRow
/-
  What package zone does to one zone: reset, finished, opened, closed, atRest, written.
-/
namespace Go.Proofs.YtgnpohkippegpaaGreat
open Go.RowKit Geom Zone
set_option linter.unusedVariables false

/-- two cells are stored: what lies there then -/
theorem set_two {w : World} {b : Nat} {u0 u1 : Value} (h0 : w.cell? ⟨b, 0, none⟩ = some u0) (h1 : w.cell? ⟨b, 1, none⟩ = some u1) (v0 v1 : Value) :
    (w.setCell ⟨b, 0, none⟩ v0).cell? ⟨b, 0, none⟩ = some v0 ∧ ((w.setCell ⟨b, 0, none⟩ v0).setCell ⟨b, 1, none⟩ v1).cell? ⟨b, 1, none⟩ = some v1 :=
  ⟨World.cell?_setCell_same _ _ _ h0, World.cell?_setCell_same _ _ _ ((World.cell?_setCell_other _ _ _ _ (by simp)).trans h1)⟩
/-- both cells of a zone that lies in block b -/
theorem new_cells (w : World) (u v : Value) (T : TypeId) (fr : Nat × Nat) : (w.alloc (.cells #[u, v] T fr)).cell? ⟨w.heap.size, 0, none⟩ = some u ∧ (w.alloc (.cells #[u, v] T fr)).cell? ⟨w.heap.size, 1, none⟩ = some v := by
  have h := rd_new w [u, v] T fr
  exact ⟨h.cell0 rfl, h.cell0 rfl⟩
theorem below_two {w : World} {o o' : Obj} : Below w.heap.size w ((w.alloc o).alloc o') := ((Below.refl _ _).alloc (Nat.le_refl _) _).alloc (by simp) _

theorem opened_any (s p : Int) (b : Bool) (w : World) :
    Calls Tryz.prog 84 #[.agg #[.int .i64 s, .int .i64 p], .bool b] w fun e w' => e = .returned (.tuple #[.agg #[.int .i64 (openZ b (s, p)).1.1, .int .i64 (openZ b (s, p)).1.2], .int .i64 (openZ b (s, p)).2]) ∧ Below w.heap.size w w' := by
  by_cases h : s = 4
  · subst h
    have HD := Lib.hid (show openZ b (4, p) = ((4, p), 3) from if_pos (.inl rfl))
    rw [HD.out]
    go_enter Tryz.func84, Tryz.ntmps84
    go_wp2
    refine bodyPost_ret (v := .tuple #[.agg #[.int .i64 (4), .int .i64 (p)], .int .i64 (3)]) (by simp [results, Tryz.results84, go_sem]) rfl ⟨rfl, ?_⟩
    exact below_two
  by_cases h2 : s = 3
  · subst h2
    have HD := Lib.hid (show openZ b (3, p) = ((3, p), 3) from if_pos (.inr rfl))
    rw [HD.out]
    go_enter Tryz.func84, Tryz.ntmps84
    go_wp2
    refine bodyPost_ret (v := .tuple #[.agg #[.int .i64 (3), .int .i64 (p)], .int .i64 (3)]) (by simp [results, Tryz.results84, go_sem]) rfl ⟨rfl, ?_⟩
    exact below_two
  by_cases h3 : s = 1
  · subst h3
    have HD := Lib.hid (show openZ b (1, p) = ((1, p), 0) from (if_neg (by simp)).trans (if_pos rfl))
    rw [HD.out]
    go_enter Tryz.func84, Tryz.ntmps84
    go_wp2
    refine bodyPost_ret (v := .tuple #[.agg #[.int .i64 (1), .int .i64 (p)], .int .i64 (0)]) (by simp [results, Tryz.results84, go_sem]) rfl ⟨rfl, ?_⟩
    exact below_two
  have hd : (s == 4) = false := by simpa using h
  have hd2 : (s == 3) = false := by simpa using h2
  have hd3 : (s == 1) = false := by simpa using h3
  cases b
  · skip
    have HD := Lib.hid (show openZ false (s, p) = ((s, p), 5) from (if_neg (by omega)).trans ((if_neg h3).trans (if_neg (by decide))))
    rw [HD.out]
    go_enter Tryz.func84, Tryz.ntmps84
    go_wp2
    refine bodyPost_ret (v := .tuple #[.agg #[.int .i64 (s), .int .i64 (p)], .int .i64 (5)]) (by simp [results, Tryz.results84, go_sem]) rfl ⟨rfl, ?_⟩
    exact below_two
  · skip
    have HD := Lib.hid (show openZ true (s, p) = ((1, p), 0) from (if_neg (by omega)).trans ((if_neg h3).trans (if_pos rfl)))
    rw [HD.out]
    go_enter Tryz.func84, Tryz.ntmps84
    go_wp2
    refine bodyPost_ret (v := .tuple #[.agg #[.int .i64 (1), .int .i64 (p)], .int .i64 (0)]) (by simp [results, Tryz.results84, go_sem]) rfl ⟨rfl, ?_⟩
    exact below_two

end Go.Proofs.YtgnpohkippegpaaGreat

/-
  What package zone does to one zone: written, and Write's closure.
-/
namespace Go.Proofs.YtgnpohkippegpaaGreat
open Go.RowKit Geom Zone
set_option linter.unusedVariables false

theorem opened_says {s p s' p' e' : Int} {b : Bool} (h : openZ b (s, p) = ((s', p'), e')) (w : World) :
    Calls Tryz.prog 84 #[.agg #[.int .i64 s, .int .i64 p], .bool b] w fun e w' => e = .returned (.tuple #[.agg #[.int .i64 s', .int .i64 p'], .int .i64 e']) ∧ Below w.heap.size w w' := by
  have := opened_any s p b w
  rw [h] at this
  exact this
theorem set_at {w : World} {a : Addr} {u : Value} (h : w.cell? a = some u) (v : Value) : (w.setCell a v).cell? a = some v := World.cell?_setCell_same _ _ _ h
theorem set_off {w : World} {a b : Addr} {u : Value} (h : w.cell? b = some u) (v : Value) (hn : a ≠ b) : (w.setCell a v).cell? b = some u := (World.cell?_setCell_other _ _ _ _ hn).trans h

set_option maxHeartbeats 1000000 in
theorem written_any (s p : Int) (off size : Int) (b : Bool) (w : World) (k0 : 0 ≤ off) (k1 : off ≤ 65536) :
    Calls Tryz.prog 59 #[.agg #[.int .i64 s, .int .i64 p], .int .i64 off, .int .i64 size, .bool b] w fun e w' => e = .returned (.tuple #[.agg #[.int .i64 (writeZ off size b (s, p)).1.1, .int .i64 (writeZ off size b (s, p)).1.2], .int .i64 (writeZ off size b (s, p)).2]) ∧ Below w.heap.size w w' := by
  by_cases h : s = 4
  · subst h
    have HD := Lib.hid (show writeZ off size b (4, p) = ((4, p), 0) from if_pos rfl)
    rw [HD.out]
    go_enter Tryz.func59, Tryz.ntmps59
    go_wp2
    refine bodyPost_ret (v := .tuple #[.agg #[.int .i64 (4), .int .i64 (p)], .int .i64 (0)]) (by simp [results, Tryz.results59, go_sem]) rfl ⟨rfl, ?_⟩
    exact below_two
  by_cases h2 : s = 3
  · subst h2
    have HD := Lib.hid (show writeZ off size b (3, p) = ((3, p), 3) from (if_neg (by simp)).trans (if_pos rfl))
    rw [HD.out]
    go_enter Tryz.func59, Tryz.ntmps59
    go_wp2
    refine bodyPost_ret (v := .tuple #[.agg #[.int .i64 (3), .int .i64 (p)], .int .i64 (3)]) (by simp [results, Tryz.results59, go_sem]) rfl ⟨rfl, ?_⟩
    exact below_two
  have hd : (s == 4) = false := by simpa using h
  have hd2 : (s == 3) = false := by simpa using h2
  by_cases h4 : off = p
  rotate_left
  · have hd4 : (off != p) = true := by simpa using h4
    have HD := Lib.hid (show writeZ off size b (s, p) = ((s, p), 4) from (if_neg h).trans ((if_neg h2).trans (if_pos h4)))
    rw [HD.out]
    go_enter Tryz.func59, Tryz.ntmps59
    go_wp2
    refine bodyPost_ret (v := .tuple #[.agg #[.int .i64 (s), .int .i64 (p)], .int .i64 (4)]) (by simp [results, Tryz.results59, go_sem]) rfl ⟨rfl, ?_⟩
    exact below_two
  subst h4
  have hq := IntWalk.i64_in (off + 1) (by omega)
  by_cases h5 : s = 1
  · have HO := Lib.hid fun w => opened_says (show openZ b (s, off) = ((s, off), 0) from (if_neg (by simp; omega)).trans (if_pos h5)) w
    subst h5
    by_cases h6 : off + 1 = size
    · subst h6
      have HD := Lib.hid (show writeZ off (off + 1) b (1, off) = ((3, off + 1), 0) from (if_neg (by simp)).trans ((if_neg (by simp)).trans ((if_neg (by simp)).trans (by simp))))
      rw [HD.out]
      obtain ⟨z0, z1⟩ := new_cells w (.int .i64 1) (.int .i64 off) 103 (0, 0)
      obtain ⟨g0, g1⟩ := new_cells (w.alloc (.cells #[.int .i64 1, .int .i64 off] 103)) (.int .i64 0) (.int .i64 0) 103 (0, 0)
      rw [show (w.alloc (.cells #[.int .i64 1, .int .i64 off] 103)).heap.size = w.heap.size + 1 by simp] at g0 g1
      have y0 := (World.cell?_alloc_lt (w.alloc (.cells #[.int .i64 1, .int .i64 off] 103)) (.cells #[.int .i64 0, .int .i64 0] 103) ⟨w.heap.size, 0, none⟩ (by simp)).trans z0
      have y1 := (World.cell?_alloc_lt (w.alloc (.cells #[.int .i64 1, .int .i64 off] 103)) (.cells #[.int .i64 0, .int .i64 0] 103) ⟨w.heap.size, 1, none⟩ (by simp)).trans z1
      go_enter Tryz.func59, Tryz.ntmps59
      go_wp2_with ((with_reducible refine (HO.out _).mono ?_); rintro e w1 ⟨rfl, hb⟩; obtain ⟨hcl, hfz⟩ := bcell hb; have x0 := (hcl _ _ (by simp; omega)).trans y0; have x1 := (hcl _ _ (by simp; omega)).trans y1; have r0 := (hcl _ _ (by simp)).trans g0; have r1 := (hcl _ _ (by simp)).trans g1; clear z0 z1 g0 g1 y0 y1; have x0_0 := set_at x0 (.int .i64 (1)); have x1_0 := set_off x1 (.int .i64 (1)) (show (⟨w.heap.size, 0, none⟩ : Addr) ≠ (⟨w.heap.size, 1, none⟩ : Addr) by simp); have r0_0 := set_off r0 (.int .i64 (1)) (show (⟨w.heap.size, 0, none⟩ : Addr) ≠ (⟨w.heap.size + 1, 0, none⟩ : Addr) by simp); have r1_0 := set_off r1 (.int .i64 (1)) (show (⟨w.heap.size, 0, none⟩ : Addr) ≠ (⟨w.heap.size + 1, 1, none⟩ : Addr) by simp); have x0_1 := set_off x0_0 (.int .i64 (off)) (show (⟨w.heap.size, 1, none⟩ : Addr) ≠ (⟨w.heap.size, 0, none⟩ : Addr) by simp); have x1_1 := set_at x1_0 (.int .i64 (off)); have r0_1 := set_off r0_0 (.int .i64 (off)) (show (⟨w.heap.size, 1, none⟩ : Addr) ≠ (⟨w.heap.size + 1, 0, none⟩ : Addr) by simp); have r1_1 := set_off r1_0 (.int .i64 (off)) (show (⟨w.heap.size, 1, none⟩ : Addr) ≠ (⟨w.heap.size + 1, 1, none⟩ : Addr) by simp); have x0_2 := set_off x0_1 (.int .i64 (off + 1)) (show (⟨w.heap.size, 1, none⟩ : Addr) ≠ (⟨w.heap.size, 0, none⟩ : Addr) by simp); have x1_2 := set_at x1_1 (.int .i64 (off + 1)); have r0_2 := set_off r0_1 (.int .i64 (off + 1)) (show (⟨w.heap.size, 1, none⟩ : Addr) ≠ (⟨w.heap.size + 1, 0, none⟩ : Addr) by simp); have r1_2 := set_off r1_1 (.int .i64 (off + 1)) (show (⟨w.heap.size, 1, none⟩ : Addr) ≠ (⟨w.heap.size + 1, 1, none⟩ : Addr) by simp); have x0_3 := set_at x0_2 (.int .i64 (3)); have x1_3 := set_off x1_2 (.int .i64 (3)) (show (⟨w.heap.size, 0, none⟩ : Addr) ≠ (⟨w.heap.size, 1, none⟩ : Addr) by simp); have r0_3 := set_off r0_2 (.int .i64 (3)) (show (⟨w.heap.size, 0, none⟩ : Addr) ≠ (⟨w.heap.size + 1, 0, none⟩ : Addr) by simp); have r1_3 := set_off r1_2 (.int .i64 (3)) (show (⟨w.heap.size, 0, none⟩ : Addr) ≠ (⟨w.heap.size + 1, 1, none⟩ : Addr) by simp); have x0_4 := set_off x0_3 (.int .i64 (3)) (show (⟨w.heap.size + 1, 0, none⟩ : Addr) ≠ (⟨w.heap.size, 0, none⟩ : Addr) by simp); have x1_4 := set_off x1_3 (.int .i64 (3)) (show (⟨w.heap.size + 1, 0, none⟩ : Addr) ≠ (⟨w.heap.size, 1, none⟩ : Addr) by simp); have r0_4 := set_at r0_3 (.int .i64 (3)); have r1_4 := set_off r1_3 (.int .i64 (3)) (show (⟨w.heap.size + 1, 0, none⟩ : Addr) ≠ (⟨w.heap.size + 1, 1, none⟩ : Addr) by simp); have x0_5 := set_off x0_4 (.int .i64 (off + 1)) (show (⟨w.heap.size + 1, 1, none⟩ : Addr) ≠ (⟨w.heap.size, 0, none⟩ : Addr) by simp); have x1_5 := set_off x1_4 (.int .i64 (off + 1)) (show (⟨w.heap.size + 1, 1, none⟩ : Addr) ≠ (⟨w.heap.size, 1, none⟩ : Addr) by simp); have r0_5 := set_off r0_4 (.int .i64 (off + 1)) (show (⟨w.heap.size + 1, 1, none⟩ : Addr) ≠ (⟨w.heap.size + 1, 0, none⟩ : Addr) by simp); have r1_5 := set_at r1_4 (.int .i64 (off + 1)); clear x1_0 r0_0 r1_0 x0_1 r0_1 r1_1 x0_2 r0_2 r1_2 x1_3 r0_3 r1_3 x0_4 x1_4 r1_4 x0_5 x1_5 r0_5)
      refine bodyPost_ret (v := .tuple #[.agg #[.int .i64 (3), .int .i64 (off + 1)], .int .i64 (0)]) (by simp [results, Tryz.results59, go_sem, r0_4, r1_5]) rfl ⟨rfl, ?_⟩
      exact (((((((below_two.trans (hb.mono (by simp; omega))).setCell (by simp) _).setCell (by simp) _).setCell (by simp) _).setCell (by simp) _).setCell (by simp) _).setCell (by simp) _)
    · have hd6 : (off + 1 == size) = false := by simpa using h6
      have HD := Lib.hid (show writeZ off size b (1, off) = ((1, off + 1), 0) from (if_neg (by simp)).trans ((if_neg (by simp)).trans ((if_neg (by simp)).trans (by simp [h6]))))
      rw [HD.out]
      obtain ⟨z0, z1⟩ := new_cells w (.int .i64 1) (.int .i64 off) 103 (0, 0)
      obtain ⟨g0, g1⟩ := new_cells (w.alloc (.cells #[.int .i64 1, .int .i64 off] 103)) (.int .i64 0) (.int .i64 0) 103 (0, 0)
      rw [show (w.alloc (.cells #[.int .i64 1, .int .i64 off] 103)).heap.size = w.heap.size + 1 by simp] at g0 g1
      have y0 := (World.cell?_alloc_lt (w.alloc (.cells #[.int .i64 1, .int .i64 off] 103)) (.cells #[.int .i64 0, .int .i64 0] 103) ⟨w.heap.size, 0, none⟩ (by simp)).trans z0
      have y1 := (World.cell?_alloc_lt (w.alloc (.cells #[.int .i64 1, .int .i64 off] 103)) (.cells #[.int .i64 0, .int .i64 0] 103) ⟨w.heap.size, 1, none⟩ (by simp)).trans z1
      go_enter Tryz.func59, Tryz.ntmps59
      go_wp2_with ((with_reducible refine (HO.out _).mono ?_); rintro e w1 ⟨rfl, hb⟩; obtain ⟨hcl, hfz⟩ := bcell hb; have x0 := (hcl _ _ (by simp; omega)).trans y0; have x1 := (hcl _ _ (by simp; omega)).trans y1; have r0 := (hcl _ _ (by simp)).trans g0; have r1 := (hcl _ _ (by simp)).trans g1; clear z0 z1 g0 g1 y0 y1; have x0_0 := set_at x0 (.int .i64 (1)); have x1_0 := set_off x1 (.int .i64 (1)) (show (⟨w.heap.size, 0, none⟩ : Addr) ≠ (⟨w.heap.size, 1, none⟩ : Addr) by simp); have r0_0 := set_off r0 (.int .i64 (1)) (show (⟨w.heap.size, 0, none⟩ : Addr) ≠ (⟨w.heap.size + 1, 0, none⟩ : Addr) by simp); have r1_0 := set_off r1 (.int .i64 (1)) (show (⟨w.heap.size, 0, none⟩ : Addr) ≠ (⟨w.heap.size + 1, 1, none⟩ : Addr) by simp); have x0_1 := set_off x0_0 (.int .i64 (off)) (show (⟨w.heap.size, 1, none⟩ : Addr) ≠ (⟨w.heap.size, 0, none⟩ : Addr) by simp); have x1_1 := set_at x1_0 (.int .i64 (off)); have r0_1 := set_off r0_0 (.int .i64 (off)) (show (⟨w.heap.size, 1, none⟩ : Addr) ≠ (⟨w.heap.size + 1, 0, none⟩ : Addr) by simp); have r1_1 := set_off r1_0 (.int .i64 (off)) (show (⟨w.heap.size, 1, none⟩ : Addr) ≠ (⟨w.heap.size + 1, 1, none⟩ : Addr) by simp); have x0_2 := set_off x0_1 (.int .i64 (off + 1)) (show (⟨w.heap.size, 1, none⟩ : Addr) ≠ (⟨w.heap.size, 0, none⟩ : Addr) by simp); have x1_2 := set_at x1_1 (.int .i64 (off + 1)); have r0_2 := set_off r0_1 (.int .i64 (off + 1)) (show (⟨w.heap.size, 1, none⟩ : Addr) ≠ (⟨w.heap.size + 1, 0, none⟩ : Addr) by simp); have r1_2 := set_off r1_1 (.int .i64 (off + 1)) (show (⟨w.heap.size, 1, none⟩ : Addr) ≠ (⟨w.heap.size + 1, 1, none⟩ : Addr) by simp); have x0_3 := set_off x0_2 (.int .i64 (1)) (show (⟨w.heap.size + 1, 0, none⟩ : Addr) ≠ (⟨w.heap.size, 0, none⟩ : Addr) by simp); have x1_3 := set_off x1_2 (.int .i64 (1)) (show (⟨w.heap.size + 1, 0, none⟩ : Addr) ≠ (⟨w.heap.size, 1, none⟩ : Addr) by simp); have r0_3 := set_at r0_2 (.int .i64 (1)); have r1_3 := set_off r1_2 (.int .i64 (1)) (show (⟨w.heap.size + 1, 0, none⟩ : Addr) ≠ (⟨w.heap.size + 1, 1, none⟩ : Addr) by simp); have x0_4 := set_off x0_3 (.int .i64 (off + 1)) (show (⟨w.heap.size + 1, 1, none⟩ : Addr) ≠ (⟨w.heap.size, 0, none⟩ : Addr) by simp); have x1_4 := set_off x1_3 (.int .i64 (off + 1)) (show (⟨w.heap.size + 1, 1, none⟩ : Addr) ≠ (⟨w.heap.size, 1, none⟩ : Addr) by simp); have r0_4 := set_off r0_3 (.int .i64 (off + 1)) (show (⟨w.heap.size + 1, 1, none⟩ : Addr) ≠ (⟨w.heap.size + 1, 0, none⟩ : Addr) by simp); have r1_4 := set_at r1_3 (.int .i64 (off + 1)); clear x1_0 r0_0 r1_0 x0_1 r0_1 r1_1 x0_2 r0_2 r1_2 x0_3 x1_3 r1_3 x0_4 x1_4 r0_4)
      refine bodyPost_ret (v := .tuple #[.agg #[.int .i64 (1), .int .i64 (off + 1)], .int .i64 (0)]) (by simp [results, Tryz.results59, go_sem, r0_3, r1_4]) rfl ⟨rfl, ?_⟩
      exact ((((((below_two.trans (hb.mono (by simp; omega))).setCell (by simp) _).setCell (by simp) _).setCell (by simp) _).setCell (by simp) _).setCell (by simp) _)
  have hd5 : (s == 1) = false := by simpa using h5
  cases b
  · have HO := Lib.hid fun w => opened_says (show openZ false (s, off) = ((s, off), 5) from (if_neg (by simp; omega)).trans ((if_neg h5).trans (if_neg (by simp)))) w
    have HD := Lib.hid (show writeZ off size false (s, off) = ((s, off), 5) from (if_neg h).trans ((if_neg h2).trans ((if_neg (by simp)).trans (if_neg (by simp; exact h5)))))
    rw [HD.out]
    obtain ⟨z0, z1⟩ := new_cells w (.int .i64 s) (.int .i64 off) 103 (0, 0)
    obtain ⟨g0, g1⟩ := new_cells (w.alloc (.cells #[.int .i64 s, .int .i64 off] 103)) (.int .i64 0) (.int .i64 0) 103 (0, 0)
    rw [show (w.alloc (.cells #[.int .i64 s, .int .i64 off] 103)).heap.size = w.heap.size + 1 by simp] at g0 g1
    have y0 := (World.cell?_alloc_lt (w.alloc (.cells #[.int .i64 s, .int .i64 off] 103)) (.cells #[.int .i64 0, .int .i64 0] 103) ⟨w.heap.size, 0, none⟩ (by simp)).trans z0
    have y1 := (World.cell?_alloc_lt (w.alloc (.cells #[.int .i64 s, .int .i64 off] 103)) (.cells #[.int .i64 0, .int .i64 0] 103) ⟨w.heap.size, 1, none⟩ (by simp)).trans z1
    go_enter Tryz.func59, Tryz.ntmps59
    go_wp2_with ((with_reducible refine (HO.out _).mono ?_); rintro e w1 ⟨rfl, hb⟩; obtain ⟨hcl, hfz⟩ := bcell hb; have x0 := (hcl _ _ (by simp; omega)).trans y0; have x1 := (hcl _ _ (by simp; omega)).trans y1; have r0 := (hcl _ _ (by simp)).trans g0; have r1 := (hcl _ _ (by simp)).trans g1; clear z0 z1 g0 g1 y0 y1; have x0_0 := set_at x0 (.int .i64 (s)); have x1_0 := set_off x1 (.int .i64 (s)) (show (⟨w.heap.size, 0, none⟩ : Addr) ≠ (⟨w.heap.size, 1, none⟩ : Addr) by simp); have r0_0 := set_off r0 (.int .i64 (s)) (show (⟨w.heap.size, 0, none⟩ : Addr) ≠ (⟨w.heap.size + 1, 0, none⟩ : Addr) by simp); have r1_0 := set_off r1 (.int .i64 (s)) (show (⟨w.heap.size, 0, none⟩ : Addr) ≠ (⟨w.heap.size + 1, 1, none⟩ : Addr) by simp); have x0_1 := set_off x0_0 (.int .i64 (off)) (show (⟨w.heap.size, 1, none⟩ : Addr) ≠ (⟨w.heap.size, 0, none⟩ : Addr) by simp); have x1_1 := set_at x1_0 (.int .i64 (off)); have r0_1 := set_off r0_0 (.int .i64 (off)) (show (⟨w.heap.size, 1, none⟩ : Addr) ≠ (⟨w.heap.size + 1, 0, none⟩ : Addr) by simp); have r1_1 := set_off r1_0 (.int .i64 (off)) (show (⟨w.heap.size, 1, none⟩ : Addr) ≠ (⟨w.heap.size + 1, 1, none⟩ : Addr) by simp); have x0_2 := set_off x0_1 (.int .i64 (s)) (show (⟨w.heap.size + 1, 0, none⟩ : Addr) ≠ (⟨w.heap.size, 0, none⟩ : Addr) by simp); have x1_2 := set_off x1_1 (.int .i64 (s)) (show (⟨w.heap.size + 1, 0, none⟩ : Addr) ≠ (⟨w.heap.size, 1, none⟩ : Addr) by simp); have r0_2 := set_at r0_1 (.int .i64 (s)); have r1_2 := set_off r1_1 (.int .i64 (s)) (show (⟨w.heap.size + 1, 0, none⟩ : Addr) ≠ (⟨w.heap.size + 1, 1, none⟩ : Addr) by simp); have x0_3 := set_off x0_2 (.int .i64 (off)) (show (⟨w.heap.size + 1, 1, none⟩ : Addr) ≠ (⟨w.heap.size, 0, none⟩ : Addr) by simp); have x1_3 := set_off x1_2 (.int .i64 (off)) (show (⟨w.heap.size + 1, 1, none⟩ : Addr) ≠ (⟨w.heap.size, 1, none⟩ : Addr) by simp); have r0_3 := set_off r0_2 (.int .i64 (off)) (show (⟨w.heap.size + 1, 1, none⟩ : Addr) ≠ (⟨w.heap.size + 1, 0, none⟩ : Addr) by simp); have r1_3 := set_at r1_2 (.int .i64 (off)); clear x1_0 r0_0 r1_0 x0_1 r0_1 r1_1 x0_2 x1_2 r1_2 x0_3 x1_3 r0_3)
    refine bodyPost_ret (v := .tuple #[.agg #[.int .i64 (s), .int .i64 (off)], .int .i64 (5)]) (by simp [results, Tryz.results59, go_sem, r0_2, r1_3]) rfl ⟨rfl, ?_⟩
    exact (((((below_two.trans (hb.mono (by simp; omega))).setCell (by simp) _).setCell (by simp) _).setCell (by simp) _).setCell (by simp) _)
  · have HO := Lib.hid fun w => opened_says (show openZ true (s, off) = ((1, off), 0) from (if_neg (by simp; omega)).trans ((if_neg h5).trans (if_pos rfl))) w
    by_cases h6 : off + 1 = size
    · subst h6
      have HD := Lib.hid (show writeZ off (off + 1) true (s, off) = ((3, off + 1), 0) from (if_neg h).trans ((if_neg h2).trans ((if_neg (by simp)).trans (by simp))))
      rw [HD.out]
      obtain ⟨z0, z1⟩ := new_cells w (.int .i64 s) (.int .i64 off) 103 (0, 0)
      obtain ⟨g0, g1⟩ := new_cells (w.alloc (.cells #[.int .i64 s, .int .i64 off] 103)) (.int .i64 0) (.int .i64 0) 103 (0, 0)
      rw [show (w.alloc (.cells #[.int .i64 s, .int .i64 off] 103)).heap.size = w.heap.size + 1 by simp] at g0 g1
      have y0 := (World.cell?_alloc_lt (w.alloc (.cells #[.int .i64 s, .int .i64 off] 103)) (.cells #[.int .i64 0, .int .i64 0] 103) ⟨w.heap.size, 0, none⟩ (by simp)).trans z0
      have y1 := (World.cell?_alloc_lt (w.alloc (.cells #[.int .i64 s, .int .i64 off] 103)) (.cells #[.int .i64 0, .int .i64 0] 103) ⟨w.heap.size, 1, none⟩ (by simp)).trans z1
      go_enter Tryz.func59, Tryz.ntmps59
      go_wp2_with ((with_reducible refine (HO.out _).mono ?_); rintro e w1 ⟨rfl, hb⟩; obtain ⟨hcl, hfz⟩ := bcell hb; have x0 := (hcl _ _ (by simp; omega)).trans y0; have x1 := (hcl _ _ (by simp; omega)).trans y1; have r0 := (hcl _ _ (by simp)).trans g0; have r1 := (hcl _ _ (by simp)).trans g1; clear z0 z1 g0 g1 y0 y1; have x0_0 := set_at x0 (.int .i64 (1)); have x1_0 := set_off x1 (.int .i64 (1)) (show (⟨w.heap.size, 0, none⟩ : Addr) ≠ (⟨w.heap.size, 1, none⟩ : Addr) by simp); have r0_0 := set_off r0 (.int .i64 (1)) (show (⟨w.heap.size, 0, none⟩ : Addr) ≠ (⟨w.heap.size + 1, 0, none⟩ : Addr) by simp); have r1_0 := set_off r1 (.int .i64 (1)) (show (⟨w.heap.size, 0, none⟩ : Addr) ≠ (⟨w.heap.size + 1, 1, none⟩ : Addr) by simp); have x0_1 := set_off x0_0 (.int .i64 (off)) (show (⟨w.heap.size, 1, none⟩ : Addr) ≠ (⟨w.heap.size, 0, none⟩ : Addr) by simp); have x1_1 := set_at x1_0 (.int .i64 (off)); have r0_1 := set_off r0_0 (.int .i64 (off)) (show (⟨w.heap.size, 1, none⟩ : Addr) ≠ (⟨w.heap.size + 1, 0, none⟩ : Addr) by simp); have r1_1 := set_off r1_0 (.int .i64 (off)) (show (⟨w.heap.size, 1, none⟩ : Addr) ≠ (⟨w.heap.size + 1, 1, none⟩ : Addr) by simp); have x0_2 := set_off x0_1 (.int .i64 (off + 1)) (show (⟨w.heap.size, 1, none⟩ : Addr) ≠ (⟨w.heap.size, 0, none⟩ : Addr) by simp); have x1_2 := set_at x1_1 (.int .i64 (off + 1)); have r0_2 := set_off r0_1 (.int .i64 (off + 1)) (show (⟨w.heap.size, 1, none⟩ : Addr) ≠ (⟨w.heap.size + 1, 0, none⟩ : Addr) by simp); have r1_2 := set_off r1_1 (.int .i64 (off + 1)) (show (⟨w.heap.size, 1, none⟩ : Addr) ≠ (⟨w.heap.size + 1, 1, none⟩ : Addr) by simp); have x0_3 := set_at x0_2 (.int .i64 (3)); have x1_3 := set_off x1_2 (.int .i64 (3)) (show (⟨w.heap.size, 0, none⟩ : Addr) ≠ (⟨w.heap.size, 1, none⟩ : Addr) by simp); have r0_3 := set_off r0_2 (.int .i64 (3)) (show (⟨w.heap.size, 0, none⟩ : Addr) ≠ (⟨w.heap.size + 1, 0, none⟩ : Addr) by simp); have r1_3 := set_off r1_2 (.int .i64 (3)) (show (⟨w.heap.size, 0, none⟩ : Addr) ≠ (⟨w.heap.size + 1, 1, none⟩ : Addr) by simp); have x0_4 := set_off x0_3 (.int .i64 (3)) (show (⟨w.heap.size + 1, 0, none⟩ : Addr) ≠ (⟨w.heap.size, 0, none⟩ : Addr) by simp); have x1_4 := set_off x1_3 (.int .i64 (3)) (show (⟨w.heap.size + 1, 0, none⟩ : Addr) ≠ (⟨w.heap.size, 1, none⟩ : Addr) by simp); have r0_4 := set_at r0_3 (.int .i64 (3)); have r1_4 := set_off r1_3 (.int .i64 (3)) (show (⟨w.heap.size + 1, 0, none⟩ : Addr) ≠ (⟨w.heap.size + 1, 1, none⟩ : Addr) by simp); have x0_5 := set_off x0_4 (.int .i64 (off + 1)) (show (⟨w.heap.size + 1, 1, none⟩ : Addr) ≠ (⟨w.heap.size, 0, none⟩ : Addr) by simp); have x1_5 := set_off x1_4 (.int .i64 (off + 1)) (show (⟨w.heap.size + 1, 1, none⟩ : Addr) ≠ (⟨w.heap.size, 1, none⟩ : Addr) by simp); have r0_5 := set_off r0_4 (.int .i64 (off + 1)) (show (⟨w.heap.size + 1, 1, none⟩ : Addr) ≠ (⟨w.heap.size + 1, 0, none⟩ : Addr) by simp); have r1_5 := set_at r1_4 (.int .i64 (off + 1)); clear x1_0 r0_0 r1_0 x0_1 r0_1 r1_1 x0_2 r0_2 r1_2 x1_3 r0_3 r1_3 x0_4 x1_4 r1_4 x0_5 x1_5 r0_5)
      refine bodyPost_ret (v := .tuple #[.agg #[.int .i64 (3), .int .i64 (off + 1)], .int .i64 (0)]) (by simp [results, Tryz.results59, go_sem, r0_4, r1_5]) rfl ⟨rfl, ?_⟩
      exact (((((((below_two.trans (hb.mono (by simp; omega))).setCell (by simp) _).setCell (by simp) _).setCell (by simp) _).setCell (by simp) _).setCell (by simp) _).setCell (by simp) _)
    · have hd6 : (off + 1 == size) = false := by simpa using h6
      have HD := Lib.hid (show writeZ off size true (s, off) = ((1, off + 1), 0) from (if_neg h).trans ((if_neg h2).trans ((if_neg (by simp)).trans (by simp [h6]))))
      rw [HD.out]
      obtain ⟨z0, z1⟩ := new_cells w (.int .i64 s) (.int .i64 off) 103 (0, 0)
      obtain ⟨g0, g1⟩ := new_cells (w.alloc (.cells #[.int .i64 s, .int .i64 off] 103)) (.int .i64 0) (.int .i64 0) 103 (0, 0)
      rw [show (w.alloc (.cells #[.int .i64 s, .int .i64 off] 103)).heap.size = w.heap.size + 1 by simp] at g0 g1
      have y0 := (World.cell?_alloc_lt (w.alloc (.cells #[.int .i64 s, .int .i64 off] 103)) (.cells #[.int .i64 0, .int .i64 0] 103) ⟨w.heap.size, 0, none⟩ (by simp)).trans z0
      have y1 := (World.cell?_alloc_lt (w.alloc (.cells #[.int .i64 s, .int .i64 off] 103)) (.cells #[.int .i64 0, .int .i64 0] 103) ⟨w.heap.size, 1, none⟩ (by simp)).trans z1
      go_enter Tryz.func59, Tryz.ntmps59
      go_wp2_with ((with_reducible refine (HO.out _).mono ?_); rintro e w1 ⟨rfl, hb⟩; obtain ⟨hcl, hfz⟩ := bcell hb; have x0 := (hcl _ _ (by simp; omega)).trans y0; have x1 := (hcl _ _ (by simp; omega)).trans y1; have r0 := (hcl _ _ (by simp)).trans g0; have r1 := (hcl _ _ (by simp)).trans g1; clear z0 z1 g0 g1 y0 y1; have x0_0 := set_at x0 (.int .i64 (1)); have x1_0 := set_off x1 (.int .i64 (1)) (show (⟨w.heap.size, 0, none⟩ : Addr) ≠ (⟨w.heap.size, 1, none⟩ : Addr) by simp); have r0_0 := set_off r0 (.int .i64 (1)) (show (⟨w.heap.size, 0, none⟩ : Addr) ≠ (⟨w.heap.size + 1, 0, none⟩ : Addr) by simp); have r1_0 := set_off r1 (.int .i64 (1)) (show (⟨w.heap.size, 0, none⟩ : Addr) ≠ (⟨w.heap.size + 1, 1, none⟩ : Addr) by simp); have x0_1 := set_off x0_0 (.int .i64 (off)) (show (⟨w.heap.size, 1, none⟩ : Addr) ≠ (⟨w.heap.size, 0, none⟩ : Addr) by simp); have x1_1 := set_at x1_0 (.int .i64 (off)); have r0_1 := set_off r0_0 (.int .i64 (off)) (show (⟨w.heap.size, 1, none⟩ : Addr) ≠ (⟨w.heap.size + 1, 0, none⟩ : Addr) by simp); have r1_1 := set_off r1_0 (.int .i64 (off)) (show (⟨w.heap.size, 1, none⟩ : Addr) ≠ (⟨w.heap.size + 1, 1, none⟩ : Addr) by simp); have x0_2 := set_off x0_1 (.int .i64 (off + 1)) (show (⟨w.heap.size, 1, none⟩ : Addr) ≠ (⟨w.heap.size, 0, none⟩ : Addr) by simp); have x1_2 := set_at x1_1 (.int .i64 (off + 1)); have r0_2 := set_off r0_1 (.int .i64 (off + 1)) (show (⟨w.heap.size, 1, none⟩ : Addr) ≠ (⟨w.heap.size + 1, 0, none⟩ : Addr) by simp); have r1_2 := set_off r1_1 (.int .i64 (off + 1)) (show (⟨w.heap.size, 1, none⟩ : Addr) ≠ (⟨w.heap.size + 1, 1, none⟩ : Addr) by simp); have x0_3 := set_off x0_2 (.int .i64 (1)) (show (⟨w.heap.size + 1, 0, none⟩ : Addr) ≠ (⟨w.heap.size, 0, none⟩ : Addr) by simp); have x1_3 := set_off x1_2 (.int .i64 (1)) (show (⟨w.heap.size + 1, 0, none⟩ : Addr) ≠ (⟨w.heap.size, 1, none⟩ : Addr) by simp); have r0_3 := set_at r0_2 (.int .i64 (1)); have r1_3 := set_off r1_2 (.int .i64 (1)) (show (⟨w.heap.size + 1, 0, none⟩ : Addr) ≠ (⟨w.heap.size + 1, 1, none⟩ : Addr) by simp); have x0_4 := set_off x0_3 (.int .i64 (off + 1)) (show (⟨w.heap.size + 1, 1, none⟩ : Addr) ≠ (⟨w.heap.size, 0, none⟩ : Addr) by simp); have x1_4 := set_off x1_3 (.int .i64 (off + 1)) (show (⟨w.heap.size + 1, 1, none⟩ : Addr) ≠ (⟨w.heap.size, 1, none⟩ : Addr) by simp); have r0_4 := set_off r0_3 (.int .i64 (off + 1)) (show (⟨w.heap.size + 1, 1, none⟩ : Addr) ≠ (⟨w.heap.size + 1, 0, none⟩ : Addr) by simp); have r1_4 := set_at r1_3 (.int .i64 (off + 1)); clear x1_0 r0_0 r1_0 x0_1 r0_1 r1_1 x0_2 r0_2 r1_2 x0_3 x1_3 r1_3 x0_4 x1_4 r0_4)
      refine bodyPost_ret (v := .tuple #[.agg #[.int .i64 (1), .int .i64 (off + 1)], .int .i64 (0)]) (by simp [results, Tryz.results59, go_sem, r0_3, r1_4]) rfl ⟨rfl, ?_⟩
      exact ((((((below_two.trans (hb.mono (by simp; omega))).setCell (by simp) _).setCell (by simp) _).setCell (by simp) _).setCell (by simp) _).setCell (by simp) _)
end Go.Proofs.YtgnpohkippegpaaGreat

/-
  Package zone: Write's closure, the tests rightSoft, has; how many are open; a copy of zones.
-/
namespace Go.Proofs.YtgnpohkippegpaaGreat
open Go.RowKit Geom Zone
set_option linter.unusedVariables false

theorem elemZ : Elem Tryz.prog 59 103 (.agg #[.int .i64 0, .int .i64 0]) 2 16 := .of Tryz.underlying59 (by kernel_rfl) rfl (by omega)
theorem guard_zone : Tryz.prog.eqGuardType Tryz.prog.depth 103 = false := by kernel_rfl
theorem equal_zone (w : World) (a b c d : Int) : (Op.equalIn 10000 103 (.agg #[.int .i64 a, .int .i64 b]) (.agg #[.int .i64 c, .int .i64 d])).run Tryz.prog w = .ok (a == c && b == d) w := by
  rw [run_equalIn_agg _ _ _ _ _ (by kernel_rfl) (by kernel_rfl)]
  simp [go_sem, Tryz.underlying103, Tryz.underlying3]
  by_cases h1 : a = c <;> by_cases h2 : b = d <;> simp [h1, h2]
theorem eql_zone (w : World) (a b c d : Int) : (binOp .eql 103 (.agg #[.int .i64 a, .int .i64 b]) (.agg #[.int .i64 c, .int .i64 d])).run Tryz.prog w = .ok (.bool (a == c && b == d)) w := by
  rw [run_eql_struct, equal_zone]
  rfl
theorem neq_zone (w : World) (a b c d : Int) : (binOp .neq 103 (.agg #[.int .i64 a, .int .i64 b]) (.agg #[.int .i64 c, .int .i64 d])).run Tryz.prog w = .ok (.bool (!(a == c && b == d))) w := by
  rw [run_neq_struct, equal_zone]
  rfl
theorem isnil_zone (w : World) (a : Option Addr) (n c : Nat) : (binOp .eql 59 (.slice a n c) (.slice none 0 0)).run Tryz.prog w = .ok (.bool a.isNone) w := Lib.run_eql_slice_nil w _ _ a n c 0 0 Tryz.underlying59

/-- Write's closure: the place in block bA, the measure in block bG -/
theorem writeF_any (s p conv soft seq size opn zone off : Int) (bA bG : Nat) (b : Bool) (w : World) (k0 : 0 ≤ off) (k1 : off ≤ 65536) (hA : LiesAt w bA zone off) (hG : Lies w bG conv soft seq size opn) :
    Calls Tryz.prog 58 #[.agg #[.int .i64 s, .int .i64 p], .bool b, .pointer (some ⟨bA, 0, none⟩), .pointer (some ⟨bG, 0, none⟩)] w fun e w' =>
      e = .returned (.tuple #[.agg #[.int .i64 (writeZ off size b (s, p)).1.1, .int .i64 (writeZ off size b (s, p)).1.2], .int .i64 (writeZ off size b (s, p)).2]) ∧ Below w.heap.size w w' := by
  obtain ⟨a0, a1, al⟩ := hA
  obtain ⟨c0, c1, c2, c3, c4, cl⟩ := hG
  obtain ⟨z0, z1⟩ := new_cells (w.alloc (.cells #[.int .i64 s, .int .i64 p] 103)) (.int .i64 0) (.int .i64 0) 103 (0, 0)
  rw [show (w.alloc (.cells #[.int .i64 s, .int .i64 p] 103)).heap.size = w.heap.size + 1 by simp] at z0 z1
  have HW := Lib.hid fun w => written_any s p off size b w k0 k1
  generalize writeZ off size b (s, p) = r at HW ⊢
  obtain ⟨⟨rs, rp⟩, re⟩ := r
  go_enter Tryz.func58, Tryz.ntmps58
  go_wp2_with ((with_reducible refine (HW.out _).mono ?_); rintro e w1 ⟨rfl, hb⟩; obtain ⟨hcl, hfz⟩ := bcell hb; have x0 := (hcl _ _ (by simp)).trans z0; have x1 := (hcl _ _ (by simp)).trans z1; have f0 := set_at x0 (.int .i64 rs); have f1 := set_at (set_off x1 (.int .i64 rs) (show (⟨w.heap.size + 1, 0, none⟩ : Addr) ≠ ⟨w.heap.size + 1, 1, none⟩ by simp)) (.int .i64 rp))
  refine bodyPost_ret (v := .tuple #[.agg #[.int .i64 rs, .int .i64 rp], .int .i64 re]) (by simp [results, Tryz.results58, go_sem, f0, f1]) rfl ⟨rfl, ?_⟩
  exact ((below_two.trans (hb.mono (by simp <;> omega))).setCell (by simp) _).setCell (by simp) _

theorem zhas_any (conv soft seq size opn zone : Int) (A : Option Addr) (n cap : Nat) (w : World) (H : Some conv seq size) (hn : (n : Int) = conv + seq) :
    Calls Tryz.prog 54 #[.agg #[.int .i64 conv, .int .i64 soft, .int .i64 seq, .int .i64 size, .int .i64 opn], .slice A n cap, .int .i64 zone] w fun e w' => e = .returned (.bool (hasB conv seq zone)) ∧ Below w.heap.size w w' := by
  have HZ := Lib.hid fun w => zones_any conv soft seq size opn w H
  have hb0 : Below w.heap.size w (w.alloc (.cells #[.int .i64 conv, .int .i64 soft, .int .i64 seq, .int .i64 size, .int .i64 opn] 23)) := (Below.refl _ _).alloc (Nat.le_refl _) _
  obtain ⟨q1, q2, q3, q4, q5⟩ := H
  by_cases h : 0 ≤ zone
  · have HD := Lib.hid (show hasB conv seq zone = decide (zone < conv + seq) by unfold hasB; rw [Bool.eq_iff_iff]; simp [h])
    go_enter Tryz.func54, Tryz.ntmps54
    go_wp2_with fail
    refine (HZ.out _).mono ?_
    rintro e w1 ⟨rfl, hb⟩
    go_wp2
    go_ret
    exact ⟨ret_bool HD.out, bthen hb0 hb⟩
  · have hd : decide (0 ≤ zone) = false := decide_eq_false h
    have HD := Lib.hid (show hasB conv seq zone = false by unfold hasB; simp <;> omega)
    go_enter Tryz.func54, Tryz.ntmps54
    go_wp2
    go_ret
    exact ⟨ret_bool HD.out, hb0⟩
end Go.Proofs.YtgnpohkippegpaaGreat

/-
  Package zone: how many are open (by the program, by the document); a copy of zones; zones with another one in a place; are two lists of zones one; is there such a sector.
-/
namespace Go.Proofs.YtgnpohkippegpaaGreat
open Go.RowKit Geom Zone
set_option linter.unusedVariables false

/-- a zone of zones that lie in a row -/
theorem Rd.zone {w : World} {B k : Nat} {A : Option Addr} {L : List Z} {z : Z} (h : Rd w B A (zc L)) (hz : L[k]? = some z) :
    ∃ ad, A = some ad ∧ ad.block < B ∧ w.cell? (ad.add (k * 2)) = some (.int .i64 z.1) ∧ w.cell? ⟨(ad.add (k * 2)).block, (ad.add (k * 2)).off + 1, none⟩ = some (.int .i64 z.2) := by
  obtain ⟨ad, rfl, hb, hc⟩ := h.at (zc_get0 hz)
  exact ⟨ad, rfl, hb, hc, by
    have e : (⟨(ad.add (k * 2)).block, (ad.add (k * 2)).off + 1, none⟩ : Addr) = (ad.add (k * 2)).add 1 := by simp [Addr.add]
    rw [e, addr_add_add]
    exact h.tail_at (zc_get1 hz)⟩
theorem cnt_same {L : List Z} {k : Nat} {z : Z} (h : L[k]? = some z) (h1 : ¬ z.1 = 1) : cnt (L.take (k + 1)) = cnt (L.take k) := by
  rw [cnt_take h, if_neg h1]
  rfl
theorem cnt_more {L : List Z} {k : Nat} {z : Z} (h : L[k]? = some z) (h1 : z.1 = 1) : cnt (L.take (k + 1)) = cnt (L.take k) + 1 := by
  rw [cnt_take h, if_pos h1]

theorem countOpen_any (A : Option Addr) (n cap : Nat) (L : List Z) (w : World) (hm : n ≤ maxLen) (hn : L.length = n) (hr : Rd w w.heap.size A (zc L)) :
    Calls Tryz.prog 83 #[.slice A n cap] w fun e w' => e = .returned (.int .i64 (cnt L)) ∧ Below w.heap.size w w' := by
  unfold maxLen at hm
  have HN := Lib.hid hn
  clear hn
  go_enter Tryz.func83, Tryz.ntmps83
  go_wp2
  go_loopw [3, 8] (fun c i wr => ∃ k : Nat, k ≤ n ∧ i = .int .i64 k ∧ c = .int .i64 (cnt (L.take k)) ∧ Below w.heap.size w wr) (fun _ i _ => n - (intOf i).toNat)
  case atStart => exact ⟨0, by omega, rfl, rfl, Below.refl _ _⟩
  case round =>
    obtain ⟨k, hk, rfl, rfl, hbl⟩ := hrel
    by_cases hlt : k < n
    · have hz := getD_of (L := L) (k := k) (d := (0, 0)) (by rw [HN.out]; exact hlt)
      have hrw := (hr.below hbl)
      obtain ⟨ad, rfl, _, hc, hc1⟩ := hrw.zone hz
      have hsz := hbl.size
      have hb2 := Lib.hid fun o => hbl.alloc hsz o
      have hle := cnt_take_le L k
      generalize L.getD k (0, 0) = z at *
      clear hrw hr
      by_cases h1 : z.1 = 1
      · have HT := Lib.hid (cnt_more hz h1)
        have hd : (z.1 == 1) = true := by simpa using h1
        clear hz hbl hsz
        generalize cnt (L.take k) = c at *
        go_wp2
        go_roundw
        case rel => exact ⟨k + 1, by omega, by go_num, by rw [HT.out]; go_num, hb2.out _⟩
        case measure => simp [intOf]; omega
      · have HT := Lib.hid (cnt_same hz h1)
        have hd : (z.1 == 1) = false := by simpa using h1
        clear hz hbl hsz
        generalize cnt (L.take k) = c at *
        go_wp2
        go_roundw
        case rel => exact ⟨k + 1, by omega, by go_num, by rw [HT.out], hb2.out _⟩
        case measure => simp [intOf]; omega
    · obtain rfl : n = k := by omega
      have HT := Lib.hid (show cnt (L.take n) = cnt L by rw [List.take_of_length_le (by rw [HN.out]; exact Nat.le_refl _)])
      go_wp2
      go_ret
      exact ⟨ret_nat HT.out.symm, hbl⟩

theorem clone_any (A : Option Addr) (n cap : Nat) (L : List Z) (w : World) (hm : n ≤ 1000) (hn : L.length = n) (h0 : 0 < n) (hr : Rd w w.heap.size A (zc L)) :
    Calls Tryz.prog 56 #[.slice A n cap] w fun e w' => ∃ g c, e = .returned (.slice (some ⟨g, 0, none⟩) n c) ∧ w'.ownsRow w.heap.size 103 2 (.slice (some ⟨g, 0, none⟩) n c) n (zc L) ∧ Below w.heap.size w w' := by
  have qN := isnil_zone
  obtain ⟨ad, rfl, _, _⟩ := hr (zc_ne (by omega))
  have HL := Lib.hid (show (zc L).length = n * 2 by rw [zc_length, hn])
  clear hn
  go_enter Tryz.func56, Tryz.ntmps56
  go_wp2_with (at_builtin; refine wpList_append_copy _ rfl _ _ _ rfl 103 _ 2 16 elemZ rfl (some ad) n cap rfl (zc L) HL.out hr (fun _ => zc_one) (by simp only [maxLen]; omega) (by omega) ?_; intro A2 c2 w2 hown hb2)
  obtain ⟨g, rfl, _, _⟩ := own_at hown h0
  go_ret
  exact ⟨g, c2, rfl, hown, hb2⟩
end Go.Proofs.YtgnpohkippegpaaGreat

/-
  Package zone: zones with another one in a place; are two lists of zones one; is there such a sector.
-/
namespace Go.Proofs.YtgnpohkippegpaaGreat
open Go.RowKit Geom Zone
set_option linter.unusedVariables false

theorem own_base {w : World} {base base' : Nat} {e : TypeId} {size n : Nat} {v : Value} {xs : List Value} (h : w.ownsRow base e size v n xs) (hb : base' ≤ base) : w.ownsRow base' e size v n xs := by
  refine ⟨h.1, ?_⟩
  rcases h.2 with h2 | ⟨g, cap, cur, h1, h2, h3⟩
  · exact .inl h2
  · exact .inr ⟨g, cap, cur, h1, Nat.le_trans hb h2, h3⟩
set_option maxRecDepth 100000 in
/-- a zone is stored in a row of the call's own -/
theorem wpList_store_zone {P : Program} (w : World) {ops : Array Oper} {rest : List Oper} {o : Oper} {a : Act} {Q : Exit → Act → World → Prop} (hgd : o.guard = none) (ty : TypeId) (x y : Operand) (ho : o.op = .store ty x y)
    (base g n c k : Nat) (e : TypeId) (L : List Z) (z : Z) (hown : w.ownsRow base e 2 (.slice (some ⟨g, 0, none⟩) n c) n (zc L)) (hk : k < n)
    (hx : a.eval x = .pointer (some ⟨g, k * 2, none⟩)) (hy : a.eval y = .agg #[.int .i64 z.1, .int .i64 z.2]) (hi : (P.info? ty).map (·.size) = some 2)
    (h : ∀ w', w'.ownsRow base e 2 (.slice (some ⟨g, 0, none⟩) n c) n (zc (L.set k z)) → w.grownBy w' (some g) → wpList P ops Q rest (a.put o.dst undef) w') : wpList P ops Q (o :: rest) a w := by
  have hl : (zc L).length = n * 2 := hown.1
  refine wpList_store_mid hgd ty x y ho g (k * 2) #[.int .i64 z.1, .int .i64 z.2] hx hy ?_ hi (by simp [Value.oneCell']) ?_
  · intro j hj
    have hj2 : j < 2 := hj
    refine ⟨?_, hown.frozenAt _⟩
    rw [hown.cellAt (k * 2 + j) (by omega)]
    simp only [List.getElem?_eq_getElem (show k * 2 + j < (zc L).length by omega)]
    rfl
  · obtain ⟨h1, g1⟩ := hown.stored (k * 2) (.int .i64 z.1)
    obtain ⟨h2, g2⟩ := h1.stored (k * 2 + 1) (.int .i64 z.2)
    rw [← zc_set] at h2
    exact h _ h2 (g1.trans g2)

set_option maxRecDepth 100000 in
set_option maxHeartbeats 1000000 in
theorem inside_any (conv soft seq size opn zone off : Int) (w : World) (H : Some conv seq size) :
    Calls Tryz.prog 55 #[.agg #[.int .i64 conv, .int .i64 soft, .int .i64 seq, .int .i64 size, .int .i64 opn], .agg #[.int .i64 zone, .int .i64 off]] w fun e w' => e = .returned (.bool (inB conv soft seq size zone off)) ∧ Below w.heap.size w w' := by
  have HS := Lib.hid fun w => sectors_any conv soft seq size opn zone w H
  have h0 := Two.new w conv soft seq size opn zone off 23 47
  have H0 := Lib.hid h0.drew
  clear h0
  by_cases h1 : 0 ≤ off
  · have HD := Lib.hid (show inB conv soft seq size zone off = decide (off < sectors conv soft seq size zone) by unfold inB; rw [Bool.eq_iff_iff]; simp [h1])
    generalize sectors conv soft seq size zone = ss at *
    go_enter Tryz.func55, Tryz.ntmps55
    go_wp2
    refine wp_region_class (fun w' => Two w w' conv soft seq size opn zone off) (by kernel_rfl) (by kernel_rfl) H0.out ?_
    intro X hX f hf hg
    have c0 := fun x => (hf x).1
    have c1 := fun x => (hf x).2.1
    have c2 := fun x => (hf x).2.2.1
    have c3 := fun x => (hf x).2.2.2.1
    have c4 := fun x => (hf x).2.2.2.2.1
    have d0 := fun x => (hf x).2.2.2.2.2.1
    have d1 := fun x => (hf x).2.2.2.2.2.2.1
    have Hf := Lib.hid hf
    have Hg := Lib.hid hg
    clear hf hg H0
    repeat (go_big_quiet_step (exact calls_class (HS.out _) (fun _ hb => Hg.out _ ((Hf.out _).below hb))))
    refine wpQuiet_nil ?_
    rintro _ ⟨x, rfl⟩
    have hbb := (Hf.out x).2.2.2.2.2.2.2.2
    go_wp2
    go_ret
    exact ⟨ret_bool HD.out, hbb⟩
  · have hd : decide (0 ≤ off) = false := decide_eq_false h1
    have HD := Lib.hid (show inB conv soft seq size zone off = false by unfold inB; simp; omega)
    go_enter Tryz.func55, Tryz.ntmps55
    go_wp2
    refine wp_region_class (fun w' => Two w w' conv soft seq size opn zone off) (by kernel_rfl) (by kernel_rfl) H0.out ?_
    intro X hX f hf hg
    have c0 := fun x => (hf x).1
    have c1 := fun x => (hf x).2.1
    have c2 := fun x => (hf x).2.2.1
    have c3 := fun x => (hf x).2.2.2.1
    have c4 := fun x => (hf x).2.2.2.2.1
    have d0 := fun x => (hf x).2.2.2.2.2.1
    have d1 := fun x => (hf x).2.2.2.2.2.2.1
    have Hf := Lib.hid hf
    have Hg := Lib.hid hg
    clear hf hg H0
    repeat (go_big_quiet_step (fail))
    refine wpQuiet_nil ?_
    rintro _ ⟨x, rfl⟩
    have hbb := (Hf.out x).2.2.2.2.2.2.2.2
    go_wp2
    go_ret
    exact ⟨ret_bool HD.out, hbb⟩
end Go.Proofs.YtgnpohkippegpaaGreat

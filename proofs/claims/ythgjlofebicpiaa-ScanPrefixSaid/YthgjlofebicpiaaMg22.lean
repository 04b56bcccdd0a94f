/-
  ZoneC ZoneD ZoneE
-/
import Derived.Test.YthgjlofebicpiaaMg16
import Derived.Test.YthgjlofebicpiaaMg17
import Derived.Laws.StructEq
/-
  What package zone does to one zone: reset, finished, opened, closed, atRest, written.
-/
namespace Go.Proofs.Ythgjlofebicpiaa
open Go.RowKit Geom Zone
set_option linter.unusedVariables false

/-- two cells are stored: what lies there then -/
theorem set_two {w : World} {b : Nat} {u0 u1 : Value} (h0 : w.cell? ⟨b, 0, none⟩ = some u0) (h1 : w.cell? ⟨b, 1, none⟩ = some u1) (v0 v1 : Value) :
    (w.setCell ⟨b, 0, none⟩ v0).cell? ⟨b, 0, none⟩ = some v0 ∧ ((w.setCell ⟨b, 0, none⟩ v0).setCell ⟨b, 1, none⟩ v1).cell? ⟨b, 1, none⟩ = some v1 :=
  ⟨World.cell?_setCell_same _ _ _ h0, World.cell?_setCell_same _ _ _ ((World.cell?_setCell_other _ _ _ _ (by simp)).trans h1)⟩
/-- both cells of a zone that lies in block b -/
theorem new_cells (w : World) (u v : Value) (T : TypeId) (fr : Nat × Nat) : (w.alloc (.cells #[u, v] T fr)).cell? ⟨w.heap.size, 0, none⟩ = some u ∧ (w.alloc (.cells #[u, v] T fr)).cell? ⟨w.heap.size, 1, none⟩ = some v := by
  have h := rd_new w [u, v] T fr
  exact ⟨h.cell0 rfl, h.cell0 rfl⟩
theorem below_two {w : World} {o o' : Obj} : Below w.heap.size w ((w.alloc o).alloc o') := ((Below.refl _ _).alloc (Nat.le_refl _) _).alloc (by simp) _

theorem opened_any (s p : Int) (b : Bool) (w : World) :
    Calls Try.prog 92 #[.agg #[.int .i64 s, .int .i64 p], .bool b] w fun e w' => e = .returned (.tuple #[.agg #[.int .i64 (openZ b (s, p)).1.1, .int .i64 (openZ b (s, p)).1.2], .int .i64 (openZ b (s, p)).2]) ∧ Below w.heap.size w w' := by
  by_cases h : s = 4
  · subst h
    have HD := Lib.hid (show openZ b (4, p) = ((4, p), 3) from if_pos (.inl rfl))
    rw [HD.out]
    go_enter Try.func92, Try.ntmps92
    go_wp2
    refine bodyPost_ret (v := .tuple #[.agg #[.int .i64 (4), .int .i64 (p)], .int .i64 (3)]) (by simp [results, Try.results92, go_sem]) rfl ⟨rfl, ?_⟩
    exact below_two
  by_cases h2 : s = 3
  · subst h2
    have HD := Lib.hid (show openZ b (3, p) = ((3, p), 3) from if_pos (.inr rfl))
    rw [HD.out]
    go_enter Try.func92, Try.ntmps92
    go_wp2
    refine bodyPost_ret (v := .tuple #[.agg #[.int .i64 (3), .int .i64 (p)], .int .i64 (3)]) (by simp [results, Try.results92, go_sem]) rfl ⟨rfl, ?_⟩
    exact below_two
  by_cases h3 : s = 1
  · subst h3
    have HD := Lib.hid (show openZ b (1, p) = ((1, p), 0) from (if_neg (by simp)).trans (if_pos rfl))
    rw [HD.out]
    go_enter Try.func92, Try.ntmps92
    go_wp2
    refine bodyPost_ret (v := .tuple #[.agg #[.int .i64 (1), .int .i64 (p)], .int .i64 (0)]) (by simp [results, Try.results92, go_sem]) rfl ⟨rfl, ?_⟩
    exact below_two
  have hd : (s == 4) = false := by simpa using h
  have hd2 : (s == 3) = false := by simpa using h2
  have hd3 : (s == 1) = false := by simpa using h3
  cases b
  · skip
    have HD := Lib.hid (show openZ false (s, p) = ((s, p), 5) from (if_neg (by omega)).trans ((if_neg h3).trans (if_neg (by decide))))
    rw [HD.out]
    go_enter Try.func92, Try.ntmps92
    go_wp2
    refine bodyPost_ret (v := .tuple #[.agg #[.int .i64 (s), .int .i64 (p)], .int .i64 (5)]) (by simp [results, Try.results92, go_sem]) rfl ⟨rfl, ?_⟩
    exact below_two
  · skip
    have HD := Lib.hid (show openZ true (s, p) = ((1, p), 0) from (if_neg (by omega)).trans ((if_neg h3).trans (if_pos rfl)))
    rw [HD.out]
    go_enter Try.func92, Try.ntmps92
    go_wp2
    refine bodyPost_ret (v := .tuple #[.agg #[.int .i64 (1), .int .i64 (p)], .int .i64 (0)]) (by simp [results, Try.results92, go_sem]) rfl ⟨rfl, ?_⟩
    exact below_two

theorem atRest_any (s p : Int) (w : World) :
    Calls Try.prog 61 #[.agg #[.int .i64 s, .int .i64 p]] w fun e w' => e = .returned (.agg #[.int .i64 (rest (s, p)).1, .int .i64 (rest (s, p)).2]) ∧ Below w.heap.size w w' := by
  by_cases h : p = 0
  · subst h
    have HD := Lib.hid (show rest (s, 0) = (0, 0) from if_pos rfl)
    rw [HD.out]
    go_enter Try.func61, Try.ntmps61
    go_wp2
    refine bodyPost_ret (v := .agg #[.int .i64 (0), .int .i64 (0)]) (by simp [results, Try.results61, go_sem]) rfl ⟨rfl, ?_⟩
    exact below_two
  · have hd : (p == 0) = false := by simpa using h
    have HD := Lib.hid (show rest (s, p) = (2, p) from if_neg h)
    rw [HD.out]
    go_enter Try.func61, Try.ntmps61
    go_wp2
    refine bodyPost_ret (v := .agg #[.int .i64 (2), .int .i64 (p)]) (by simp [results, Try.results61, go_sem]) rfl ⟨rfl, ?_⟩
    exact below_two

end Go.Proofs.Ythgjlofebicpiaa

/-
  What package zone does to one zone: written, and Write's closure.
-/
namespace Go.Proofs.Ythgjlofebicpiaa
open Go.RowKit Geom Zone
set_option linter.unusedVariables false

theorem opened_says {s p s' p' e' : Int} {b : Bool} (h : openZ b (s, p) = ((s', p'), e')) (w : World) :
    Calls Try.prog 92 #[.agg #[.int .i64 s, .int .i64 p], .bool b] w fun e w' => e = .returned (.tuple #[.agg #[.int .i64 s', .int .i64 p'], .int .i64 e']) ∧ Below w.heap.size w w' := by
  have := opened_any s p b w
  rw [h] at this
  exact this
theorem set_at {w : World} {a : Addr} {u : Value} (h : w.cell? a = some u) (v : Value) : (w.setCell a v).cell? a = some v := World.cell?_setCell_same _ _ _ h
theorem set_off {w : World} {a b : Addr} {u : Value} (h : w.cell? b = some u) (v : Value) (hn : a ≠ b) : (w.setCell a v).cell? b = some u := (World.cell?_setCell_other _ _ _ _ hn).trans h

set_option maxHeartbeats 1000000 in
theorem written_any (s p : Int) (off size : Int) (b : Bool) (w : World) (k0 : 0 ≤ off) (k1 : off ≤ 65536) :
    Calls Try.prog 69 #[.agg #[.int .i64 s, .int .i64 p], .int .i64 off, .int .i64 size, .bool b] w fun e w' => e = .returned (.tuple #[.agg #[.int .i64 (writeZ off size b (s, p)).1.1, .int .i64 (writeZ off size b (s, p)).1.2], .int .i64 (writeZ off size b (s, p)).2]) ∧ Below w.heap.size w w' := by
  by_cases h : s = 4
  · subst h
    have HD := Lib.hid (show writeZ off size b (4, p) = ((4, p), 0) from if_pos rfl)
    rw [HD.out]
    go_enter Try.func69, Try.ntmps69
    go_wp2
    refine bodyPost_ret (v := .tuple #[.agg #[.int .i64 (4), .int .i64 (p)], .int .i64 (0)]) (by simp [results, Try.results69, go_sem]) rfl ⟨rfl, ?_⟩
    exact below_two
  by_cases h2 : s = 3
  · subst h2
    have HD := Lib.hid (show writeZ off size b (3, p) = ((3, p), 3) from (if_neg (by simp)).trans (if_pos rfl))
    rw [HD.out]
    go_enter Try.func69, Try.ntmps69
    go_wp2
    refine bodyPost_ret (v := .tuple #[.agg #[.int .i64 (3), .int .i64 (p)], .int .i64 (3)]) (by simp [results, Try.results69, go_sem]) rfl ⟨rfl, ?_⟩
    exact below_two
  have hd : (s == 4) = false := by simpa using h
  have hd2 : (s == 3) = false := by simpa using h2
  by_cases h4 : off = p
  rotate_left
  · have hd4 : (off != p) = true := by simpa using h4
    have HD := Lib.hid (show writeZ off size b (s, p) = ((s, p), 4) from (if_neg h).trans ((if_neg h2).trans (if_pos h4)))
    rw [HD.out]
    go_enter Try.func69, Try.ntmps69
    go_wp2
    refine bodyPost_ret (v := .tuple #[.agg #[.int .i64 (s), .int .i64 (p)], .int .i64 (4)]) (by simp [results, Try.results69, go_sem]) rfl ⟨rfl, ?_⟩
    exact below_two
  subst h4
  have hq := IntWalk.i64_in (off + 1) (by omega)
  by_cases h5 : s = 1
  · have HO := Lib.hid fun w => opened_says (show openZ b (s, off) = ((s, off), 0) from (if_neg (by simp; omega)).trans (if_pos h5)) w
    subst h5
    by_cases h6 : off + 1 = size
    · subst h6
      have HD := Lib.hid (show writeZ off (off + 1) b (1, off) = ((3, off + 1), 0) from (if_neg (by simp)).trans ((if_neg (by simp)).trans ((if_neg (by simp)).trans (by simp))))
      rw [HD.out]
      obtain ⟨z0, z1⟩ := new_cells w (.int .i64 1) (.int .i64 off) 66 (0, 0)
      obtain ⟨g0, g1⟩ := new_cells (w.alloc (.cells #[.int .i64 1, .int .i64 off] 66)) (.int .i64 0) (.int .i64 0) 66 (0, 0)
      rw [show (w.alloc (.cells #[.int .i64 1, .int .i64 off] 66)).heap.size = w.heap.size + 1 by simp] at g0 g1
      have y0 := (World.cell?_alloc_lt (w.alloc (.cells #[.int .i64 1, .int .i64 off] 66)) (.cells #[.int .i64 0, .int .i64 0] 66) ⟨w.heap.size, 0, none⟩ (by simp)).trans z0
      have y1 := (World.cell?_alloc_lt (w.alloc (.cells #[.int .i64 1, .int .i64 off] 66)) (.cells #[.int .i64 0, .int .i64 0] 66) ⟨w.heap.size, 1, none⟩ (by simp)).trans z1
      go_enter Try.func69, Try.ntmps69
      go_wp2_with ((with_reducible refine (HO.out _).mono ?_); rintro e w1 ⟨rfl, hb⟩; obtain ⟨hcl, hfz⟩ := bcell hb; have x0 := (hcl _ _ (by simp; omega)).trans y0; have x1 := (hcl _ _ (by simp; omega)).trans y1; have r0 := (hcl _ _ (by simp)).trans g0; have r1 := (hcl _ _ (by simp)).trans g1; clear z0 z1 g0 g1 y0 y1; have x0_0 := set_at x0 (.int .i64 (1)); have x1_0 := set_off x1 (.int .i64 (1)) (show (⟨w.heap.size, 0, none⟩ : Addr) ≠ (⟨w.heap.size, 1, none⟩ : Addr) by simp); have r0_0 := set_off r0 (.int .i64 (1)) (show (⟨w.heap.size, 0, none⟩ : Addr) ≠ (⟨w.heap.size + 1, 0, none⟩ : Addr) by simp); have r1_0 := set_off r1 (.int .i64 (1)) (show (⟨w.heap.size, 0, none⟩ : Addr) ≠ (⟨w.heap.size + 1, 1, none⟩ : Addr) by simp); have x0_1 := set_off x0_0 (.int .i64 (off)) (show (⟨w.heap.size, 1, none⟩ : Addr) ≠ (⟨w.heap.size, 0, none⟩ : Addr) by simp); have x1_1 := set_at x1_0 (.int .i64 (off)); have r0_1 := set_off r0_0 (.int .i64 (off)) (show (⟨w.heap.size, 1, none⟩ : Addr) ≠ (⟨w.heap.size + 1, 0, none⟩ : Addr) by simp); have r1_1 := set_off r1_0 (.int .i64 (off)) (show (⟨w.heap.size, 1, none⟩ : Addr) ≠ (⟨w.heap.size + 1, 1, none⟩ : Addr) by simp); have x0_2 := set_off x0_1 (.int .i64 (off + 1)) (show (⟨w.heap.size, 1, none⟩ : Addr) ≠ (⟨w.heap.size, 0, none⟩ : Addr) by simp); have x1_2 := set_at x1_1 (.int .i64 (off + 1)); have r0_2 := set_off r0_1 (.int .i64 (off + 1)) (show (⟨w.heap.size, 1, none⟩ : Addr) ≠ (⟨w.heap.size + 1, 0, none⟩ : Addr) by simp); have r1_2 := set_off r1_1 (.int .i64 (off + 1)) (show (⟨w.heap.size, 1, none⟩ : Addr) ≠ (⟨w.heap.size + 1, 1, none⟩ : Addr) by simp); have x0_3 := set_at x0_2 (.int .i64 (3)); have x1_3 := set_off x1_2 (.int .i64 (3)) (show (⟨w.heap.size, 0, none⟩ : Addr) ≠ (⟨w.heap.size, 1, none⟩ : Addr) by simp); have r0_3 := set_off r0_2 (.int .i64 (3)) (show (⟨w.heap.size, 0, none⟩ : Addr) ≠ (⟨w.heap.size + 1, 0, none⟩ : Addr) by simp); have r1_3 := set_off r1_2 (.int .i64 (3)) (show (⟨w.heap.size, 0, none⟩ : Addr) ≠ (⟨w.heap.size + 1, 1, none⟩ : Addr) by simp); have x0_4 := set_off x0_3 (.int .i64 (3)) (show (⟨w.heap.size + 1, 0, none⟩ : Addr) ≠ (⟨w.heap.size, 0, none⟩ : Addr) by simp); have x1_4 := set_off x1_3 (.int .i64 (3)) (show (⟨w.heap.size + 1, 0, none⟩ : Addr) ≠ (⟨w.heap.size, 1, none⟩ : Addr) by simp); have r0_4 := set_at r0_3 (.int .i64 (3)); have r1_4 := set_off r1_3 (.int .i64 (3)) (show (⟨w.heap.size + 1, 0, none⟩ : Addr) ≠ (⟨w.heap.size + 1, 1, none⟩ : Addr) by simp); have x0_5 := set_off x0_4 (.int .i64 (off + 1)) (show (⟨w.heap.size + 1, 1, none⟩ : Addr) ≠ (⟨w.heap.size, 0, none⟩ : Addr) by simp); have x1_5 := set_off x1_4 (.int .i64 (off + 1)) (show (⟨w.heap.size + 1, 1, none⟩ : Addr) ≠ (⟨w.heap.size, 1, none⟩ : Addr) by simp); have r0_5 := set_off r0_4 (.int .i64 (off + 1)) (show (⟨w.heap.size + 1, 1, none⟩ : Addr) ≠ (⟨w.heap.size + 1, 0, none⟩ : Addr) by simp); have r1_5 := set_at r1_4 (.int .i64 (off + 1)); clear x1_0 r0_0 r1_0 x0_1 r0_1 r1_1 x0_2 r0_2 r1_2 x1_3 r0_3 r1_3 x0_4 x1_4 r1_4 x0_5 x1_5 r0_5)
      refine bodyPost_ret (v := .tuple #[.agg #[.int .i64 (3), .int .i64 (off + 1)], .int .i64 (0)]) (by simp [results, Try.results69, go_sem, r0_4, r1_5]) rfl ⟨rfl, ?_⟩
      exact (((((((below_two.trans (hb.mono (by simp; omega))).setCell (by simp) _).setCell (by simp) _).setCell (by simp) _).setCell (by simp) _).setCell (by simp) _).setCell (by simp) _)
    · have hd6 : (off + 1 == size) = false := by simpa using h6
      have HD := Lib.hid (show writeZ off size b (1, off) = ((1, off + 1), 0) from (if_neg (by simp)).trans ((if_neg (by simp)).trans ((if_neg (by simp)).trans (by simp [h6]))))
      rw [HD.out]
      obtain ⟨z0, z1⟩ := new_cells w (.int .i64 1) (.int .i64 off) 66 (0, 0)
      obtain ⟨g0, g1⟩ := new_cells (w.alloc (.cells #[.int .i64 1, .int .i64 off] 66)) (.int .i64 0) (.int .i64 0) 66 (0, 0)
      rw [show (w.alloc (.cells #[.int .i64 1, .int .i64 off] 66)).heap.size = w.heap.size + 1 by simp] at g0 g1
      have y0 := (World.cell?_alloc_lt (w.alloc (.cells #[.int .i64 1, .int .i64 off] 66)) (.cells #[.int .i64 0, .int .i64 0] 66) ⟨w.heap.size, 0, none⟩ (by simp)).trans z0
      have y1 := (World.cell?_alloc_lt (w.alloc (.cells #[.int .i64 1, .int .i64 off] 66)) (.cells #[.int .i64 0, .int .i64 0] 66) ⟨w.heap.size, 1, none⟩ (by simp)).trans z1
      go_enter Try.func69, Try.ntmps69
      go_wp2_with ((with_reducible refine (HO.out _).mono ?_); rintro e w1 ⟨rfl, hb⟩; obtain ⟨hcl, hfz⟩ := bcell hb; have x0 := (hcl _ _ (by simp; omega)).trans y0; have x1 := (hcl _ _ (by simp; omega)).trans y1; have r0 := (hcl _ _ (by simp)).trans g0; have r1 := (hcl _ _ (by simp)).trans g1; clear z0 z1 g0 g1 y0 y1; have x0_0 := set_at x0 (.int .i64 (1)); have x1_0 := set_off x1 (.int .i64 (1)) (show (⟨w.heap.size, 0, none⟩ : Addr) ≠ (⟨w.heap.size, 1, none⟩ : Addr) by simp); have r0_0 := set_off r0 (.int .i64 (1)) (show (⟨w.heap.size, 0, none⟩ : Addr) ≠ (⟨w.heap.size + 1, 0, none⟩ : Addr) by simp); have r1_0 := set_off r1 (.int .i64 (1)) (show (⟨w.heap.size, 0, none⟩ : Addr) ≠ (⟨w.heap.size + 1, 1, none⟩ : Addr) by simp); have x0_1 := set_off x0_0 (.int .i64 (off)) (show (⟨w.heap.size, 1, none⟩ : Addr) ≠ (⟨w.heap.size, 0, none⟩ : Addr) by simp); have x1_1 := set_at x1_0 (.int .i64 (off)); have r0_1 := set_off r0_0 (.int .i64 (off)) (show (⟨w.heap.size, 1, none⟩ : Addr) ≠ (⟨w.heap.size + 1, 0, none⟩ : Addr) by simp); have r1_1 := set_off r1_0 (.int .i64 (off)) (show (⟨w.heap.size, 1, none⟩ : Addr) ≠ (⟨w.heap.size + 1, 1, none⟩ : Addr) by simp); have x0_2 := set_off x0_1 (.int .i64 (off + 1)) (show (⟨w.heap.size, 1, none⟩ : Addr) ≠ (⟨w.heap.size, 0, none⟩ : Addr) by simp); have x1_2 := set_at x1_1 (.int .i64 (off + 1)); have r0_2 := set_off r0_1 (.int .i64 (off + 1)) (show (⟨w.heap.size, 1, none⟩ : Addr) ≠ (⟨w.heap.size + 1, 0, none⟩ : Addr) by simp); have r1_2 := set_off r1_1 (.int .i64 (off + 1)) (show (⟨w.heap.size, 1, none⟩ : Addr) ≠ (⟨w.heap.size + 1, 1, none⟩ : Addr) by simp); have x0_3 := set_off x0_2 (.int .i64 (1)) (show (⟨w.heap.size + 1, 0, none⟩ : Addr) ≠ (⟨w.heap.size, 0, none⟩ : Addr) by simp); have x1_3 := set_off x1_2 (.int .i64 (1)) (show (⟨w.heap.size + 1, 0, none⟩ : Addr) ≠ (⟨w.heap.size, 1, none⟩ : Addr) by simp); have r0_3 := set_at r0_2 (.int .i64 (1)); have r1_3 := set_off r1_2 (.int .i64 (1)) (show (⟨w.heap.size + 1, 0, none⟩ : Addr) ≠ (⟨w.heap.size + 1, 1, none⟩ : Addr) by simp); have x0_4 := set_off x0_3 (.int .i64 (off + 1)) (show (⟨w.heap.size + 1, 1, none⟩ : Addr) ≠ (⟨w.heap.size, 0, none⟩ : Addr) by simp); have x1_4 := set_off x1_3 (.int .i64 (off + 1)) (show (⟨w.heap.size + 1, 1, none⟩ : Addr) ≠ (⟨w.heap.size, 1, none⟩ : Addr) by simp); have r0_4 := set_off r0_3 (.int .i64 (off + 1)) (show (⟨w.heap.size + 1, 1, none⟩ : Addr) ≠ (⟨w.heap.size + 1, 0, none⟩ : Addr) by simp); have r1_4 := set_at r1_3 (.int .i64 (off + 1)); clear x1_0 r0_0 r1_0 x0_1 r0_1 r1_1 x0_2 r0_2 r1_2 x0_3 x1_3 r1_3 x0_4 x1_4 r0_4)
      refine bodyPost_ret (v := .tuple #[.agg #[.int .i64 (1), .int .i64 (off + 1)], .int .i64 (0)]) (by simp [results, Try.results69, go_sem, r0_3, r1_4]) rfl ⟨rfl, ?_⟩
      exact ((((((below_two.trans (hb.mono (by simp; omega))).setCell (by simp) _).setCell (by simp) _).setCell (by simp) _).setCell (by simp) _).setCell (by simp) _)
  have hd5 : (s == 1) = false := by simpa using h5
  cases b
  · have HO := Lib.hid fun w => opened_says (show openZ false (s, off) = ((s, off), 5) from (if_neg (by simp; omega)).trans ((if_neg h5).trans (if_neg (by simp)))) w
    have HD := Lib.hid (show writeZ off size false (s, off) = ((s, off), 5) from (if_neg h).trans ((if_neg h2).trans ((if_neg (by simp)).trans (if_neg (by simp; exact h5)))))
    rw [HD.out]
    obtain ⟨z0, z1⟩ := new_cells w (.int .i64 s) (.int .i64 off) 66 (0, 0)
    obtain ⟨g0, g1⟩ := new_cells (w.alloc (.cells #[.int .i64 s, .int .i64 off] 66)) (.int .i64 0) (.int .i64 0) 66 (0, 0)
    rw [show (w.alloc (.cells #[.int .i64 s, .int .i64 off] 66)).heap.size = w.heap.size + 1 by simp] at g0 g1
    have y0 := (World.cell?_alloc_lt (w.alloc (.cells #[.int .i64 s, .int .i64 off] 66)) (.cells #[.int .i64 0, .int .i64 0] 66) ⟨w.heap.size, 0, none⟩ (by simp)).trans z0
    have y1 := (World.cell?_alloc_lt (w.alloc (.cells #[.int .i64 s, .int .i64 off] 66)) (.cells #[.int .i64 0, .int .i64 0] 66) ⟨w.heap.size, 1, none⟩ (by simp)).trans z1
    go_enter Try.func69, Try.ntmps69
    go_wp2_with ((with_reducible refine (HO.out _).mono ?_); rintro e w1 ⟨rfl, hb⟩; obtain ⟨hcl, hfz⟩ := bcell hb; have x0 := (hcl _ _ (by simp; omega)).trans y0; have x1 := (hcl _ _ (by simp; omega)).trans y1; have r0 := (hcl _ _ (by simp)).trans g0; have r1 := (hcl _ _ (by simp)).trans g1; clear z0 z1 g0 g1 y0 y1; have x0_0 := set_at x0 (.int .i64 (s)); have x1_0 := set_off x1 (.int .i64 (s)) (show (⟨w.heap.size, 0, none⟩ : Addr) ≠ (⟨w.heap.size, 1, none⟩ : Addr) by simp); have r0_0 := set_off r0 (.int .i64 (s)) (show (⟨w.heap.size, 0, none⟩ : Addr) ≠ (⟨w.heap.size + 1, 0, none⟩ : Addr) by simp); have r1_0 := set_off r1 (.int .i64 (s)) (show (⟨w.heap.size, 0, none⟩ : Addr) ≠ (⟨w.heap.size + 1, 1, none⟩ : Addr) by simp); have x0_1 := set_off x0_0 (.int .i64 (off)) (show (⟨w.heap.size, 1, none⟩ : Addr) ≠ (⟨w.heap.size, 0, none⟩ : Addr) by simp); have x1_1 := set_at x1_0 (.int .i64 (off)); have r0_1 := set_off r0_0 (.int .i64 (off)) (show (⟨w.heap.size, 1, none⟩ : Addr) ≠ (⟨w.heap.size + 1, 0, none⟩ : Addr) by simp); have r1_1 := set_off r1_0 (.int .i64 (off)) (show (⟨w.heap.size, 1, none⟩ : Addr) ≠ (⟨w.heap.size + 1, 1, none⟩ : Addr) by simp); have x0_2 := set_off x0_1 (.int .i64 (s)) (show (⟨w.heap.size + 1, 0, none⟩ : Addr) ≠ (⟨w.heap.size, 0, none⟩ : Addr) by simp); have x1_2 := set_off x1_1 (.int .i64 (s)) (show (⟨w.heap.size + 1, 0, none⟩ : Addr) ≠ (⟨w.heap.size, 1, none⟩ : Addr) by simp); have r0_2 := set_at r0_1 (.int .i64 (s)); have r1_2 := set_off r1_1 (.int .i64 (s)) (show (⟨w.heap.size + 1, 0, none⟩ : Addr) ≠ (⟨w.heap.size + 1, 1, none⟩ : Addr) by simp); have x0_3 := set_off x0_2 (.int .i64 (off)) (show (⟨w.heap.size + 1, 1, none⟩ : Addr) ≠ (⟨w.heap.size, 0, none⟩ : Addr) by simp); have x1_3 := set_off x1_2 (.int .i64 (off)) (show (⟨w.heap.size + 1, 1, none⟩ : Addr) ≠ (⟨w.heap.size, 1, none⟩ : Addr) by simp); have r0_3 := set_off r0_2 (.int .i64 (off)) (show (⟨w.heap.size + 1, 1, none⟩ : Addr) ≠ (⟨w.heap.size + 1, 0, none⟩ : Addr) by simp); have r1_3 := set_at r1_2 (.int .i64 (off)); clear x1_0 r0_0 r1_0 x0_1 r0_1 r1_1 x0_2 x1_2 r1_2 x0_3 x1_3 r0_3)
    refine bodyPost_ret (v := .tuple #[.agg #[.int .i64 (s), .int .i64 (off)], .int .i64 (5)]) (by simp [results, Try.results69, go_sem, r0_2, r1_3]) rfl ⟨rfl, ?_⟩
    exact (((((below_two.trans (hb.mono (by simp; omega))).setCell (by simp) _).setCell (by simp) _).setCell (by simp) _).setCell (by simp) _)
  · have HO := Lib.hid fun w => opened_says (show openZ true (s, off) = ((1, off), 0) from (if_neg (by simp; omega)).trans ((if_neg h5).trans (if_pos rfl))) w
    by_cases h6 : off + 1 = size
    · subst h6
      have HD := Lib.hid (show writeZ off (off + 1) true (s, off) = ((3, off + 1), 0) from (if_neg h).trans ((if_neg h2).trans ((if_neg (by simp)).trans (by simp))))
      rw [HD.out]
      obtain ⟨z0, z1⟩ := new_cells w (.int .i64 s) (.int .i64 off) 66 (0, 0)
      obtain ⟨g0, g1⟩ := new_cells (w.alloc (.cells #[.int .i64 s, .int .i64 off] 66)) (.int .i64 0) (.int .i64 0) 66 (0, 0)
      rw [show (w.alloc (.cells #[.int .i64 s, .int .i64 off] 66)).heap.size = w.heap.size + 1 by simp] at g0 g1
      have y0 := (World.cell?_alloc_lt (w.alloc (.cells #[.int .i64 s, .int .i64 off] 66)) (.cells #[.int .i64 0, .int .i64 0] 66) ⟨w.heap.size, 0, none⟩ (by simp)).trans z0
      have y1 := (World.cell?_alloc_lt (w.alloc (.cells #[.int .i64 s, .int .i64 off] 66)) (.cells #[.int .i64 0, .int .i64 0] 66) ⟨w.heap.size, 1, none⟩ (by simp)).trans z1
      go_enter Try.func69, Try.ntmps69
      go_wp2_with ((with_reducible refine (HO.out _).mono ?_); rintro e w1 ⟨rfl, hb⟩; obtain ⟨hcl, hfz⟩ := bcell hb; have x0 := (hcl _ _ (by simp; omega)).trans y0; have x1 := (hcl _ _ (by simp; omega)).trans y1; have r0 := (hcl _ _ (by simp)).trans g0; have r1 := (hcl _ _ (by simp)).trans g1; clear z0 z1 g0 g1 y0 y1; have x0_0 := set_at x0 (.int .i64 (1)); have x1_0 := set_off x1 (.int .i64 (1)) (show (⟨w.heap.size, 0, none⟩ : Addr) ≠ (⟨w.heap.size, 1, none⟩ : Addr) by simp); have r0_0 := set_off r0 (.int .i64 (1)) (show (⟨w.heap.size, 0, none⟩ : Addr) ≠ (⟨w.heap.size + 1, 0, none⟩ : Addr) by simp); have r1_0 := set_off r1 (.int .i64 (1)) (show (⟨w.heap.size, 0, none⟩ : Addr) ≠ (⟨w.heap.size + 1, 1, none⟩ : Addr) by simp); have x0_1 := set_off x0_0 (.int .i64 (off)) (show (⟨w.heap.size, 1, none⟩ : Addr) ≠ (⟨w.heap.size, 0, none⟩ : Addr) by simp); have x1_1 := set_at x1_0 (.int .i64 (off)); have r0_1 := set_off r0_0 (.int .i64 (off)) (show (⟨w.heap.size, 1, none⟩ : Addr) ≠ (⟨w.heap.size + 1, 0, none⟩ : Addr) by simp); have r1_1 := set_off r1_0 (.int .i64 (off)) (show (⟨w.heap.size, 1, none⟩ : Addr) ≠ (⟨w.heap.size + 1, 1, none⟩ : Addr) by simp); have x0_2 := set_off x0_1 (.int .i64 (off + 1)) (show (⟨w.heap.size, 1, none⟩ : Addr) ≠ (⟨w.heap.size, 0, none⟩ : Addr) by simp); have x1_2 := set_at x1_1 (.int .i64 (off + 1)); have r0_2 := set_off r0_1 (.int .i64 (off + 1)) (show (⟨w.heap.size, 1, none⟩ : Addr) ≠ (⟨w.heap.size + 1, 0, none⟩ : Addr) by simp); have r1_2 := set_off r1_1 (.int .i64 (off + 1)) (show (⟨w.heap.size, 1, none⟩ : Addr) ≠ (⟨w.heap.size + 1, 1, none⟩ : Addr) by simp); have x0_3 := set_at x0_2 (.int .i64 (3)); have x1_3 := set_off x1_2 (.int .i64 (3)) (show (⟨w.heap.size, 0, none⟩ : Addr) ≠ (⟨w.heap.size, 1, none⟩ : Addr) by simp); have r0_3 := set_off r0_2 (.int .i64 (3)) (show (⟨w.heap.size, 0, none⟩ : Addr) ≠ (⟨w.heap.size + 1, 0, none⟩ : Addr) by simp); have r1_3 := set_off r1_2 (.int .i64 (3)) (show (⟨w.heap.size, 0, none⟩ : Addr) ≠ (⟨w.heap.size + 1, 1, none⟩ : Addr) by simp); have x0_4 := set_off x0_3 (.int .i64 (3)) (show (⟨w.heap.size + 1, 0, none⟩ : Addr) ≠ (⟨w.heap.size, 0, none⟩ : Addr) by simp); have x1_4 := set_off x1_3 (.int .i64 (3)) (show (⟨w.heap.size + 1, 0, none⟩ : Addr) ≠ (⟨w.heap.size, 1, none⟩ : Addr) by simp); have r0_4 := set_at r0_3 (.int .i64 (3)); have r1_4 := set_off r1_3 (.int .i64 (3)) (show (⟨w.heap.size + 1, 0, none⟩ : Addr) ≠ (⟨w.heap.size + 1, 1, none⟩ : Addr) by simp); have x0_5 := set_off x0_4 (.int .i64 (off + 1)) (show (⟨w.heap.size + 1, 1, none⟩ : Addr) ≠ (⟨w.heap.size, 0, none⟩ : Addr) by simp); have x1_5 := set_off x1_4 (.int .i64 (off + 1)) (show (⟨w.heap.size + 1, 1, none⟩ : Addr) ≠ (⟨w.heap.size, 1, none⟩ : Addr) by simp); have r0_5 := set_off r0_4 (.int .i64 (off + 1)) (show (⟨w.heap.size + 1, 1, none⟩ : Addr) ≠ (⟨w.heap.size + 1, 0, none⟩ : Addr) by simp); have r1_5 := set_at r1_4 (.int .i64 (off + 1)); clear x1_0 r0_0 r1_0 x0_1 r0_1 r1_1 x0_2 r0_2 r1_2 x1_3 r0_3 r1_3 x0_4 x1_4 r1_4 x0_5 x1_5 r0_5)
      refine bodyPost_ret (v := .tuple #[.agg #[.int .i64 (3), .int .i64 (off + 1)], .int .i64 (0)]) (by simp [results, Try.results69, go_sem, r0_4, r1_5]) rfl ⟨rfl, ?_⟩
      exact (((((((below_two.trans (hb.mono (by simp; omega))).setCell (by simp) _).setCell (by simp) _).setCell (by simp) _).setCell (by simp) _).setCell (by simp) _).setCell (by simp) _)
    · have hd6 : (off + 1 == size) = false := by simpa using h6
      have HD := Lib.hid (show writeZ off size true (s, off) = ((1, off + 1), 0) from (if_neg h).trans ((if_neg h2).trans ((if_neg (by simp)).trans (by simp [h6]))))
      rw [HD.out]
      obtain ⟨z0, z1⟩ := new_cells w (.int .i64 s) (.int .i64 off) 66 (0, 0)
      obtain ⟨g0, g1⟩ := new_cells (w.alloc (.cells #[.int .i64 s, .int .i64 off] 66)) (.int .i64 0) (.int .i64 0) 66 (0, 0)
      rw [show (w.alloc (.cells #[.int .i64 s, .int .i64 off] 66)).heap.size = w.heap.size + 1 by simp] at g0 g1
      have y0 := (World.cell?_alloc_lt (w.alloc (.cells #[.int .i64 s, .int .i64 off] 66)) (.cells #[.int .i64 0, .int .i64 0] 66) ⟨w.heap.size, 0, none⟩ (by simp)).trans z0
      have y1 := (World.cell?_alloc_lt (w.alloc (.cells #[.int .i64 s, .int .i64 off] 66)) (.cells #[.int .i64 0, .int .i64 0] 66) ⟨w.heap.size, 1, none⟩ (by simp)).trans z1
      go_enter Try.func69, Try.ntmps69
      go_wp2_with ((with_reducible refine (HO.out _).mono ?_); rintro e w1 ⟨rfl, hb⟩; obtain ⟨hcl, hfz⟩ := bcell hb; have x0 := (hcl _ _ (by simp; omega)).trans y0; have x1 := (hcl _ _ (by simp; omega)).trans y1; have r0 := (hcl _ _ (by simp)).trans g0; have r1 := (hcl _ _ (by simp)).trans g1; clear z0 z1 g0 g1 y0 y1; have x0_0 := set_at x0 (.int .i64 (1)); have x1_0 := set_off x1 (.int .i64 (1)) (show (⟨w.heap.size, 0, none⟩ : Addr) ≠ (⟨w.heap.size, 1, none⟩ : Addr) by simp); have r0_0 := set_off r0 (.int .i64 (1)) (show (⟨w.heap.size, 0, none⟩ : Addr) ≠ (⟨w.heap.size + 1, 0, none⟩ : Addr) by simp); have r1_0 := set_off r1 (.int .i64 (1)) (show (⟨w.heap.size, 0, none⟩ : Addr) ≠ (⟨w.heap.size + 1, 1, none⟩ : Addr) by simp); have x0_1 := set_off x0_0 (.int .i64 (off)) (show (⟨w.heap.size, 1, none⟩ : Addr) ≠ (⟨w.heap.size, 0, none⟩ : Addr) by simp); have x1_1 := set_at x1_0 (.int .i64 (off)); have r0_1 := set_off r0_0 (.int .i64 (off)) (show (⟨w.heap.size, 1, none⟩ : Addr) ≠ (⟨w.heap.size + 1, 0, none⟩ : Addr) by simp); have r1_1 := set_off r1_0 (.int .i64 (off)) (show (⟨w.heap.size, 1, none⟩ : Addr) ≠ (⟨w.heap.size + 1, 1, none⟩ : Addr) by simp); have x0_2 := set_off x0_1 (.int .i64 (off + 1)) (show (⟨w.heap.size, 1, none⟩ : Addr) ≠ (⟨w.heap.size, 0, none⟩ : Addr) by simp); have x1_2 := set_at x1_1 (.int .i64 (off + 1)); have r0_2 := set_off r0_1 (.int .i64 (off + 1)) (show (⟨w.heap.size, 1, none⟩ : Addr) ≠ (⟨w.heap.size + 1, 0, none⟩ : Addr) by simp); have r1_2 := set_off r1_1 (.int .i64 (off + 1)) (show (⟨w.heap.size, 1, none⟩ : Addr) ≠ (⟨w.heap.size + 1, 1, none⟩ : Addr) by simp); have x0_3 := set_off x0_2 (.int .i64 (1)) (show (⟨w.heap.size + 1, 0, none⟩ : Addr) ≠ (⟨w.heap.size, 0, none⟩ : Addr) by simp); have x1_3 := set_off x1_2 (.int .i64 (1)) (show (⟨w.heap.size + 1, 0, none⟩ : Addr) ≠ (⟨w.heap.size, 1, none⟩ : Addr) by simp); have r0_3 := set_at r0_2 (.int .i64 (1)); have r1_3 := set_off r1_2 (.int .i64 (1)) (show (⟨w.heap.size + 1, 0, none⟩ : Addr) ≠ (⟨w.heap.size + 1, 1, none⟩ : Addr) by simp); have x0_4 := set_off x0_3 (.int .i64 (off + 1)) (show (⟨w.heap.size + 1, 1, none⟩ : Addr) ≠ (⟨w.heap.size, 0, none⟩ : Addr) by simp); have x1_4 := set_off x1_3 (.int .i64 (off + 1)) (show (⟨w.heap.size + 1, 1, none⟩ : Addr) ≠ (⟨w.heap.size, 1, none⟩ : Addr) by simp); have r0_4 := set_off r0_3 (.int .i64 (off + 1)) (show (⟨w.heap.size + 1, 1, none⟩ : Addr) ≠ (⟨w.heap.size + 1, 0, none⟩ : Addr) by simp); have r1_4 := set_at r1_3 (.int .i64 (off + 1)); clear x1_0 r0_0 r1_0 x0_1 r0_1 r1_1 x0_2 r0_2 r1_2 x0_3 x1_3 r1_3 x0_4 x1_4 r0_4)
      refine bodyPost_ret (v := .tuple #[.agg #[.int .i64 (1), .int .i64 (off + 1)], .int .i64 (0)]) (by simp [results, Try.results69, go_sem, r0_3, r1_4]) rfl ⟨rfl, ?_⟩
      exact ((((((below_two.trans (hb.mono (by simp; omega))).setCell (by simp) _).setCell (by simp) _).setCell (by simp) _).setCell (by simp) _).setCell (by simp) _)
end Go.Proofs.Ythgjlofebicpiaa

/-
  Package zone: Write's closure, the tests rightSoft, has; how many are open; a copy of zones.
-/
namespace Go.Proofs.Ythgjlofebicpiaa
open Go.RowKit Geom Zone
set_option linter.unusedVariables false

theorem elemZ : Elem Try.prog 59 66 (.agg #[.int .i64 0, .int .i64 0]) 2 16 := .of Try.underlying59 (by kernel_rfl) rfl (by omega)
theorem guard_zone : Try.prog.eqGuardType Try.prog.depth 66 = false := by kernel_rfl
theorem equal_zone (w : World) (a b c d : Int) : (Op.equalIn 10000 66 (.agg #[.int .i64 a, .int .i64 b]) (.agg #[.int .i64 c, .int .i64 d])).run Try.prog w = .ok (a == c && b == d) w := by
  rw [run_equalIn_agg _ _ _ _ _ (by kernel_rfl) (by kernel_rfl)]
  simp [go_sem, Try.underlying66, Try.underlying3]
  by_cases h1 : a = c <;> by_cases h2 : b = d <;> simp [h1, h2]
theorem eql_zone (w : World) (a b c d : Int) : (binOp .eql 66 (.agg #[.int .i64 a, .int .i64 b]) (.agg #[.int .i64 c, .int .i64 d])).run Try.prog w = .ok (.bool (a == c && b == d)) w := by
  rw [run_eql_struct, equal_zone]
  rfl
theorem neq_zone (w : World) (a b c d : Int) : (binOp .neq 66 (.agg #[.int .i64 a, .int .i64 b]) (.agg #[.int .i64 c, .int .i64 d])).run Try.prog w = .ok (.bool (!(a == c && b == d))) w := by
  rw [run_neq_struct, equal_zone]
  rfl
theorem isnil_zone (w : World) (a : Option Addr) (n c : Nat) : (binOp .eql 59 (.slice a n c) (.slice none 0 0)).run Try.prog w = .ok (.bool a.isNone) w := Lib.run_eql_slice_nil w _ _ a n c 0 0 Try.underlying59

/-- Write's closure: the place in block bA, the measure in block bG -/
theorem writeF_any (s p conv soft seq size opn zone off : Int) (bA bG : Nat) (b : Bool) (w : World) (k0 : 0 ≤ off) (k1 : off ≤ 65536) (hA : LiesAt w bA zone off) (hG : Lies w bG conv soft seq size opn) :
    Calls Try.prog 68 #[.agg #[.int .i64 s, .int .i64 p], .bool b, .pointer (some ⟨bA, 0, none⟩), .pointer (some ⟨bG, 0, none⟩)] w fun e w' =>
      e = .returned (.tuple #[.agg #[.int .i64 (writeZ off size b (s, p)).1.1, .int .i64 (writeZ off size b (s, p)).1.2], .int .i64 (writeZ off size b (s, p)).2]) ∧ Below w.heap.size w w' := by
  obtain ⟨a0, a1, al⟩ := hA
  obtain ⟨c0, c1, c2, c3, c4, cl⟩ := hG
  obtain ⟨z0, z1⟩ := new_cells (w.alloc (.cells #[.int .i64 s, .int .i64 p] 66)) (.int .i64 0) (.int .i64 0) 66 (0, 0)
  rw [show (w.alloc (.cells #[.int .i64 s, .int .i64 p] 66)).heap.size = w.heap.size + 1 by simp] at z0 z1
  have HW := Lib.hid fun w => written_any s p off size b w k0 k1
  generalize writeZ off size b (s, p) = r at HW ⊢
  obtain ⟨⟨rs, rp⟩, re⟩ := r
  go_enter Try.func68, Try.ntmps68
  go_wp2_with ((with_reducible refine (HW.out _).mono ?_); rintro e w1 ⟨rfl, hb⟩; obtain ⟨hcl, hfz⟩ := bcell hb; have x0 := (hcl _ _ (by simp)).trans z0; have x1 := (hcl _ _ (by simp)).trans z1; have f0 := set_at x0 (.int .i64 rs); have f1 := set_at (set_off x1 (.int .i64 rs) (show (⟨w.heap.size + 1, 0, none⟩ : Addr) ≠ ⟨w.heap.size + 1, 1, none⟩ by simp)) (.int .i64 rp))
  refine bodyPost_ret (v := .tuple #[.agg #[.int .i64 rs, .int .i64 rp], .int .i64 re]) (by simp [results, Try.results68, go_sem, f0, f1]) rfl ⟨rfl, ?_⟩
  exact ((below_two.trans (hb.mono (by simp <;> omega))).setCell (by simp) _).setCell (by simp) _

theorem zhas_any (conv soft seq size opn zone : Int) (A : Option Addr) (n cap : Nat) (w : World) (H : Some conv seq size) (hn : (n : Int) = conv + seq) :
    Calls Try.prog 85 #[.agg #[.int .i64 conv, .int .i64 soft, .int .i64 seq, .int .i64 size, .int .i64 opn], .slice A n cap, .int .i64 zone] w fun e w' => e = .returned (.bool (hasB conv seq zone)) ∧ Below w.heap.size w w' := by
  have HZ := Lib.hid fun w => zones_any conv soft seq size opn w H
  have hb0 : Below w.heap.size w (w.alloc (.cells #[.int .i64 conv, .int .i64 soft, .int .i64 seq, .int .i64 size, .int .i64 opn] 23)) := (Below.refl _ _).alloc (Nat.le_refl _) _
  obtain ⟨q1, q2, q3, q4, q5⟩ := H
  by_cases h : 0 ≤ zone
  · have HD := Lib.hid (show hasB conv seq zone = decide (zone < conv + seq) by unfold hasB; rw [Bool.eq_iff_iff]; simp [h])
    go_enter Try.func85, Try.ntmps85
    go_wp2_with fail
    refine (HZ.out _).mono ?_
    rintro e w1 ⟨rfl, hb⟩
    go_wp2
    go_ret
    exact ⟨ret_bool HD.out, bthen hb0 hb⟩
  · have hd : decide (0 ≤ zone) = false := decide_eq_false h
    have HD := Lib.hid (show hasB conv seq zone = false by unfold hasB; simp <;> omega)
    go_enter Try.func85, Try.ntmps85
    go_wp2
    go_ret
    exact ⟨ret_bool HD.out, hb0⟩
end Go.Proofs.Ythgjlofebicpiaa

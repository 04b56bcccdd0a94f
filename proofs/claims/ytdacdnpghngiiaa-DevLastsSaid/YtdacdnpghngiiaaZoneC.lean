/-
  What package zone does to one zone: reset, finished, opened, closed, atRest, written.
-/
import Derived.Test.YtdacdnpghngiiaaGeomD
import Derived.Test.YtdacdnpghngiiaaZoneM
namespace Go.Proofs.Ytdacdnpghngiiaa
open Go.RowKit Geom Zone
set_option linter.unusedVariables false

/-- two cells are stored: what lies there then -/
theorem set_two {w : World} {b : Nat} {u0 u1 : Value} (h0 : w.cell? ⟨b, 0, none⟩ = some u0) (h1 : w.cell? ⟨b, 1, none⟩ = some u1) (v0 v1 : Value) :
    (w.setCell ⟨b, 0, none⟩ v0).cell? ⟨b, 0, none⟩ = some v0 ∧ ((w.setCell ⟨b, 0, none⟩ v0).setCell ⟨b, 1, none⟩ v1).cell? ⟨b, 1, none⟩ = some v1 :=
  ⟨World.cell?_setCell_same _ _ _ h0, World.cell?_setCell_same _ _ _ ((World.cell?_setCell_other _ _ _ _ (by simp)).trans h1)⟩
/-- both cells of a zone that lies in block b -/
theorem new_cells (w : World) (u v : Value) (T : TypeId) (fr : Nat × Nat) : (w.alloc (.cells #[u, v] T fr)).cell? ⟨w.heap.size, 0, none⟩ = some u ∧ (w.alloc (.cells #[u, v] T fr)).cell? ⟨w.heap.size, 1, none⟩ = some v := by
  have h := rd_new w [u, v] T fr
  exact ⟨h.cell0 rfl, h.cell0 rfl⟩
theorem below_two {w : World} {o o' : Obj} : Below w.heap.size w ((w.alloc o).alloc o') := ((Below.refl _ _).alloc (Nat.le_refl _) _).alloc (by simp) _

theorem reset_any (s p : Int) (b : Bool) (w : World) :
    Calls Try.prog 78 #[.agg #[.int .i64 s, .int .i64 p], .bool b] w fun e w' => e = .returned (.tuple #[.agg #[.int .i64 (resetZ (s, p)).1.1, .int .i64 (resetZ (s, p)).1.2], .int .i64 (resetZ (s, p)).2]) ∧ Below w.heap.size w w' := by
  by_cases h : s = 4
  · subst h
    have HD := Lib.hid (show resetZ (4, p) = ((4, p), 3) from if_pos rfl)
    rw [HD.out]
    go_enter Try.func78, Try.ntmps78
    go_wp2
    refine bodyPost_ret (v := .tuple #[.agg #[.int .i64 (4), .int .i64 (p)], .int .i64 (3)]) (by simp [results, Try.results78, go_sem]) rfl ⟨rfl, ?_⟩
    exact below_two
  · have hd : (s == 4) = false := by simpa using h
    have HD := Lib.hid (show resetZ (s, p) = ((0, 0), 0) from if_neg h)
    rw [HD.out]
    go_enter Try.func78, Try.ntmps78
    go_wp2
    refine bodyPost_ret (v := .tuple #[.agg #[.int .i64 (0), .int .i64 (0)], .int .i64 (0)]) (by simp [results, Try.results78, go_sem]) rfl ⟨rfl, ?_⟩
    exact below_two

theorem finished_any (s p : Int) (b : Bool) (w : World) :
    Calls Try.prog 80 #[.agg #[.int .i64 s, .int .i64 p], .bool b] w fun e w' => e = .returned (.tuple #[.agg #[.int .i64 (finishZ (s, p)).1.1, .int .i64 (finishZ (s, p)).1.2], .int .i64 (finishZ (s, p)).2]) ∧ Below w.heap.size w w' := by
  by_cases h : s = 4
  · subst h
    have HD := Lib.hid (show finishZ (4, p) = ((4, p), 3) from if_pos (.inl rfl))
    rw [HD.out]
    go_enter Try.func80, Try.ntmps80
    go_wp2
    refine bodyPost_ret (v := .tuple #[.agg #[.int .i64 (4), .int .i64 (p)], .int .i64 (3)]) (by simp [results, Try.results80, go_sem]) rfl ⟨rfl, ?_⟩
    exact below_two
  by_cases h2 : s = 3
  · subst h2
    have HD := Lib.hid (show finishZ (3, p) = ((3, p), 3) from if_pos (.inr rfl))
    rw [HD.out]
    go_enter Try.func80, Try.ntmps80
    go_wp2
    refine bodyPost_ret (v := .tuple #[.agg #[.int .i64 (3), .int .i64 (p)], .int .i64 (3)]) (by simp [results, Try.results80, go_sem]) rfl ⟨rfl, ?_⟩
    exact below_two
  have hd : (s == 4) = false := by simpa using h
  have hd2 : (s == 3) = false := by simpa using h2
  have HD := Lib.hid (show finishZ (s, p) = ((3, p), 0) from if_neg (by omega))
  rw [HD.out]
  go_enter Try.func80, Try.ntmps80
  go_wp2
  refine bodyPost_ret (v := .tuple #[.agg #[.int .i64 (3), .int .i64 (p)], .int .i64 (0)]) (by simp [results, Try.results80, go_sem]) rfl ⟨rfl, ?_⟩
  exact below_two

theorem opened_any (s p : Int) (b : Bool) (w : World) :
    Calls Try.prog 83 #[.agg #[.int .i64 s, .int .i64 p], .bool b] w fun e w' => e = .returned (.tuple #[.agg #[.int .i64 (openZ b (s, p)).1.1, .int .i64 (openZ b (s, p)).1.2], .int .i64 (openZ b (s, p)).2]) ∧ Below w.heap.size w w' := by
  by_cases h : s = 4
  · subst h
    have HD := Lib.hid (show openZ b (4, p) = ((4, p), 3) from if_pos (.inl rfl))
    rw [HD.out]
    go_enter Try.func83, Try.ntmps83
    go_wp2
    refine bodyPost_ret (v := .tuple #[.agg #[.int .i64 (4), .int .i64 (p)], .int .i64 (3)]) (by simp [results, Try.results83, go_sem]) rfl ⟨rfl, ?_⟩
    exact below_two
  by_cases h2 : s = 3
  · subst h2
    have HD := Lib.hid (show openZ b (3, p) = ((3, p), 3) from if_pos (.inr rfl))
    rw [HD.out]
    go_enter Try.func83, Try.ntmps83
    go_wp2
    refine bodyPost_ret (v := .tuple #[.agg #[.int .i64 (3), .int .i64 (p)], .int .i64 (3)]) (by simp [results, Try.results83, go_sem]) rfl ⟨rfl, ?_⟩
    exact below_two
  by_cases h3 : s = 1
  · subst h3
    have HD := Lib.hid (show openZ b (1, p) = ((1, p), 0) from (if_neg (by simp)).trans (if_pos rfl))
    rw [HD.out]
    go_enter Try.func83, Try.ntmps83
    go_wp2
    refine bodyPost_ret (v := .tuple #[.agg #[.int .i64 (1), .int .i64 (p)], .int .i64 (0)]) (by simp [results, Try.results83, go_sem]) rfl ⟨rfl, ?_⟩
    exact below_two
  have hd : (s == 4) = false := by simpa using h
  have hd2 : (s == 3) = false := by simpa using h2
  have hd3 : (s == 1) = false := by simpa using h3
  cases b
  · skip
    have HD := Lib.hid (show openZ false (s, p) = ((s, p), 5) from (if_neg (by omega)).trans ((if_neg h3).trans (if_neg (by decide))))
    rw [HD.out]
    go_enter Try.func83, Try.ntmps83
    go_wp2
    refine bodyPost_ret (v := .tuple #[.agg #[.int .i64 (s), .int .i64 (p)], .int .i64 (5)]) (by simp [results, Try.results83, go_sem]) rfl ⟨rfl, ?_⟩
    exact below_two
  · skip
    have HD := Lib.hid (show openZ true (s, p) = ((1, p), 0) from (if_neg (by omega)).trans ((if_neg h3).trans (if_pos rfl)))
    rw [HD.out]
    go_enter Try.func83, Try.ntmps83
    go_wp2
    refine bodyPost_ret (v := .tuple #[.agg #[.int .i64 (1), .int .i64 (p)], .int .i64 (0)]) (by simp [results, Try.results83, go_sem]) rfl ⟨rfl, ?_⟩
    exact below_two

theorem atRest_any (s p : Int) (w : World) :
    Calls Try.prog 69 #[.agg #[.int .i64 s, .int .i64 p]] w fun e w' => e = .returned (.agg #[.int .i64 (rest (s, p)).1, .int .i64 (rest (s, p)).2]) ∧ Below w.heap.size w w' := by
  by_cases h : p = 0
  · subst h
    have HD := Lib.hid (show rest (s, 0) = (0, 0) from if_pos rfl)
    rw [HD.out]
    go_enter Try.func69, Try.ntmps69
    go_wp2
    refine bodyPost_ret (v := .agg #[.int .i64 (0), .int .i64 (0)]) (by simp [results, Try.results69, go_sem]) rfl ⟨rfl, ?_⟩
    exact below_two
  · have hd : (p == 0) = false := by simpa using h
    have HD := Lib.hid (show rest (s, p) = (2, p) from if_neg h)
    rw [HD.out]
    go_enter Try.func69, Try.ntmps69
    go_wp2
    refine bodyPost_ret (v := .agg #[.int .i64 (2), .int .i64 (p)]) (by simp [results, Try.results69, go_sem]) rfl ⟨rfl, ?_⟩
    exact below_two

end Go.Proofs.Ytdacdnpghngiiaa

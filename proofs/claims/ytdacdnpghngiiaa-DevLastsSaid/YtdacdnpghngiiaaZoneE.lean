/-
  Package zone: Write's closure, the tests rightSoft, has; how many are open; a copy of zones.
-/
import Derived.Test.YtdacdnpghngiiaaZoneD
import Derived.Laws.StructEq
namespace Go.Proofs.Ytdacdnpghngiiaa
open Go.RowKit Geom Zone
set_option linter.unusedVariables false

theorem elemZ : Elem Try.prog 46 45 (.agg #[.int .i64 0, .int .i64 0]) 2 16 := .of Try.underlying46 (by kernel_rfl) rfl (by omega)
theorem guard_zone : Try.prog.eqGuardType Try.prog.depth 45 = false := by kernel_rfl
theorem equal_zone (w : World) (a b c d : Int) : (Op.equalIn 10000 45 (.agg #[.int .i64 a, .int .i64 b]) (.agg #[.int .i64 c, .int .i64 d])).run Try.prog w = .ok (a == c && b == d) w := by
  rw [run_equalIn_agg _ _ _ _ _ (by kernel_rfl) (by kernel_rfl)]
  simp [go_sem, Try.underlying45, Try.underlying3]
  by_cases h1 : a = c <;> by_cases h2 : b = d <;> simp [h1, h2]
theorem eql_zone (w : World) (a b c d : Int) : (binOp .eql 45 (.agg #[.int .i64 a, .int .i64 b]) (.agg #[.int .i64 c, .int .i64 d])).run Try.prog w = .ok (.bool (a == c && b == d)) w := by
  rw [run_eql_struct, equal_zone]
  rfl
theorem neq_zone (w : World) (a b c d : Int) : (binOp .neq 45 (.agg #[.int .i64 a, .int .i64 b]) (.agg #[.int .i64 c, .int .i64 d])).run Try.prog w = .ok (.bool (!(a == c && b == d))) w := by
  rw [run_neq_struct, equal_zone]
  rfl
theorem isnil_zone (w : World) (a : Option Addr) (n c : Nat) : (binOp .eql 46 (.slice a n c) (.slice none 0 0)).run Try.prog w = .ok (.bool a.isNone) w := Lib.run_eql_slice_nil w _ _ a n c 0 0 Try.underlying46

/-- Write's closure: the place in block bA, the measure in block bG -/
theorem writeF_any (s p conv soft seq size opn zone off : Int) (bA bG : Nat) (b : Bool) (w : World) (k0 : 0 ≤ off) (k1 : off ≤ 65536) (hA : LiesAt w bA zone off) (hG : Lies w bG conv soft seq size opn) :
    Calls Try.prog 64 #[.agg #[.int .i64 s, .int .i64 p], .bool b, .pointer (some ⟨bA, 0, none⟩), .pointer (some ⟨bG, 0, none⟩)] w fun e w' =>
      e = .returned (.tuple #[.agg #[.int .i64 (writeZ off size b (s, p)).1.1, .int .i64 (writeZ off size b (s, p)).1.2], .int .i64 (writeZ off size b (s, p)).2]) ∧ Below w.heap.size w w' := by
  obtain ⟨a0, a1, al⟩ := hA
  obtain ⟨c0, c1, c2, c3, c4, cl⟩ := hG
  obtain ⟨z0, z1⟩ := new_cells (w.alloc (.cells #[.int .i64 s, .int .i64 p] 45)) (.int .i64 0) (.int .i64 0) 45 (0, 0)
  rw [show (w.alloc (.cells #[.int .i64 s, .int .i64 p] 45)).heap.size = w.heap.size + 1 by simp] at z0 z1
  have HW := Lib.hid fun w => written_any s p off size b w k0 k1
  generalize writeZ off size b (s, p) = r at HW ⊢
  obtain ⟨⟨rs, rp⟩, re⟩ := r
  go_enter Try.func64, Try.ntmps64
  go_wp2_with ((with_reducible refine (HW.out _).mono ?_); rintro e w1 ⟨rfl, hb⟩; obtain ⟨hcl, hfz⟩ := bcell hb; have x0 := (hcl _ _ (by simp)).trans z0; have x1 := (hcl _ _ (by simp)).trans z1; have f0 := set_at x0 (.int .i64 rs); have f1 := set_at (set_off x1 (.int .i64 rs) (show (⟨w.heap.size + 1, 0, none⟩ : Addr) ≠ ⟨w.heap.size + 1, 1, none⟩ by simp)) (.int .i64 rp))
  refine bodyPost_ret (v := .tuple #[.agg #[.int .i64 rs, .int .i64 rp], .int .i64 re]) (by simp [results, Try.results64, go_sem, f0, f1]) rfl ⟨rfl, ?_⟩
  exact ((below_two.trans (hb.mono (by simp <;> omega))).setCell (by simp) _).setCell (by simp) _

theorem has_any (conv soft seq size opn zone : Int) (A : Option Addr) (n cap : Nat) (w : World) (H : Some conv seq size) (hn : (n : Int) = conv + seq) :
    Calls Try.prog 70 #[.agg #[.int .i64 conv, .int .i64 soft, .int .i64 seq, .int .i64 size, .int .i64 opn], .slice A n cap, .int .i64 zone] w fun e w' => e = .returned (.bool (hasB conv seq zone)) ∧ Below w.heap.size w w' := by
  have HZ := Lib.hid fun w => zones_any conv soft seq size opn w H
  have hb0 : Below w.heap.size w (w.alloc (.cells #[.int .i64 conv, .int .i64 soft, .int .i64 seq, .int .i64 size, .int .i64 opn] 23)) := (Below.refl _ _).alloc (Nat.le_refl _) _
  obtain ⟨q1, q2, q3, q4, q5⟩ := H
  by_cases h : 0 ≤ zone
  · have HD := Lib.hid (show hasB conv seq zone = decide (zone < conv + seq) by unfold hasB; rw [Bool.eq_iff_iff]; simp [h])
    go_enter Try.func70, Try.ntmps70
    go_wp2_with fail
    refine (HZ.out _).mono ?_
    rintro e w1 ⟨rfl, hb⟩
    go_wp2
    go_ret
    exact ⟨ret_bool HD.out, bthen hb0 hb⟩
  · have hd : decide (0 ≤ zone) = false := decide_eq_false h
    have HD := Lib.hid (show hasB conv seq zone = false by unfold hasB; simp <;> omega)
    go_enter Try.func70, Try.ntmps70
    go_wp2
    go_ret
    exact ⟨ret_bool HD.out, hb0⟩
end Go.Proofs.Ytdacdnpghngiiaa

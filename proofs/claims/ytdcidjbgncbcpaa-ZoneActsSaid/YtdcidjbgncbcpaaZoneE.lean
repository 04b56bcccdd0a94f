/-
  Package zone: Write's closure, the tests rightSoft, has; how many are open; a copy of zones.
-/
import Derived.Test.YtdcidjbgncbcpaaZoneD
import Derived.Laws.StructEq
namespace Go.Proofs.Ytdcidjbgncbcpaa
open Go.RowKit Geom Zone
set_option linter.unusedVariables false

theorem elemZ : Elem Try.prog 24 42 (.agg #[.int .i64 0, .int .i64 0]) 2 16 := .of Try.underlying24 (by kernel_rfl) rfl (by omega)
theorem guard_zone : Try.prog.eqGuardType Try.prog.depth 42 = false := by kernel_rfl
theorem equal_zone (w : World) (a b c d : Int) : (Op.equalIn 10000 42 (.agg #[.int .i64 a, .int .i64 b]) (.agg #[.int .i64 c, .int .i64 d])).run Try.prog w = .ok (a == c && b == d) w := by
  rw [run_equalIn_agg _ _ _ _ _ (by kernel_rfl) (by kernel_rfl)]
  simp [go_sem, Try.underlying42, Try.underlying3]
  by_cases h1 : a = c <;> by_cases h2 : b = d <;> simp [h1, h2]
theorem eql_zone (w : World) (a b c d : Int) : (binOp .eql 42 (.agg #[.int .i64 a, .int .i64 b]) (.agg #[.int .i64 c, .int .i64 d])).run Try.prog w = .ok (.bool (a == c && b == d)) w := by
  rw [run_eql_struct, equal_zone]
  rfl
theorem neq_zone (w : World) (a b c d : Int) : (binOp .neq 42 (.agg #[.int .i64 a, .int .i64 b]) (.agg #[.int .i64 c, .int .i64 d])).run Try.prog w = .ok (.bool (!(a == c && b == d))) w := by
  rw [run_neq_struct, equal_zone]
  rfl
theorem isnil_zone (w : World) (a : Option Addr) (n c : Nat) : (binOp .eql 24 (.slice a n c) (.slice none 0 0)).run Try.prog w = .ok (.bool a.isNone) w := Lib.run_eql_slice_nil w _ _ a n c 0 0 Try.underlying24

/-- Write's closure: the place in block bA, the measure in block bG -/
theorem writeF_any (s p conv soft seq size opn zone off : Int) (bA bG : Nat) (b : Bool) (w : World) (k0 : 0 ≤ off) (k1 : off ≤ 65536) (hA : LiesAt w bA zone off) (hG : Lies w bG conv soft seq size opn) :
    Calls Try.prog 37 #[.agg #[.int .i64 s, .int .i64 p], .bool b, .pointer (some ⟨bA, 0, none⟩), .pointer (some ⟨bG, 0, none⟩)] w fun e w' =>
      e = .returned (.tuple #[.agg #[.int .i64 (writeZ off size b (s, p)).1.1, .int .i64 (writeZ off size b (s, p)).1.2], .int .i64 (writeZ off size b (s, p)).2]) ∧ Below w.heap.size w w' := by
  obtain ⟨a0, a1, al⟩ := hA
  obtain ⟨c0, c1, c2, c3, c4, cl⟩ := hG
  obtain ⟨z0, z1⟩ := new_cells (w.alloc (.cells #[.int .i64 s, .int .i64 p] 42)) (.int .i64 0) (.int .i64 0) 42 (0, 0)
  rw [show (w.alloc (.cells #[.int .i64 s, .int .i64 p] 42)).heap.size = w.heap.size + 1 by simp] at z0 z1
  have HW := Lib.hid fun w => written_any s p off size b w k0 k1
  generalize writeZ off size b (s, p) = r at HW ⊢
  obtain ⟨⟨rs, rp⟩, re⟩ := r
  go_enter Try.func37, Try.ntmps37
  go_wp2_with ((with_reducible refine (HW.out _).mono ?_); rintro e w1 ⟨rfl, hb⟩; obtain ⟨hcl, hfz⟩ := bcell hb; have x0 := (hcl _ _ (by simp)).trans z0; have x1 := (hcl _ _ (by simp)).trans z1; have f0 := set_at x0 (.int .i64 rs); have f1 := set_at (set_off x1 (.int .i64 rs) (show (⟨w.heap.size + 1, 0, none⟩ : Addr) ≠ ⟨w.heap.size + 1, 1, none⟩ by simp)) (.int .i64 rp))
  refine bodyPost_ret (v := .tuple #[.agg #[.int .i64 rs, .int .i64 rp], .int .i64 re]) (by simp [results, Try.results37, go_sem, f0, f1]) rfl ⟨rfl, ?_⟩
  exact ((below_two.trans (hb.mono (by simp <;> omega))).setCell (by simp) _).setCell (by simp) _

theorem zrightSoft_any (s p : Int) (w : World) :
    Calls Try.prog 24 #[.agg #[.int .i64 s, .int .i64 p]] w fun e w' => e = .returned (.bool (s == 4 && p == 0)) ∧ Below w.heap.size w w' := by
  have qE := eql_zone
  have qG := guard_zone
  go_enter Try.func24, Try.ntmps24
  go_wp2
  go_ret
  exact ⟨rfl, (Below.refl _ _).alloc (Nat.le_refl _) _⟩

theorem rightSeq_any (s p size : Int) (w : World) :
    Calls Try.prog 25 #[.agg #[.int .i64 s, .int .i64 p], .int .i64 size] w fun e w' => e = .returned (.bool (seqB size (s, p))) ∧ Below w.heap.size w w' := by
  by_cases h0 : s = 0
  · subst h0
    have HD := Lib.hid (show seqB size (0, p) = (p == 0) from by unfold seqB; rw [Bool.eq_iff_iff]; simp <;> omega)
    go_enter Try.func25, Try.ntmps25
    go_wp2
    go_ret
    exact ⟨ret_bool HD.out, (Below.refl _ _).alloc (Nat.le_refl _) _⟩
  have n0 : (s == 0) = false := by simpa using h0
  by_cases h1 : s = 1
  · subst h1
    by_cases hp : 0 ≤ p
    · have HD := Lib.hid (show seqB size (1, p) = decide (p < size) from by unfold seqB; rw [Bool.eq_iff_iff]; simp <;> omega)
      go_enter Try.func25, Try.ntmps25
      go_wp2
      go_ret
      exact ⟨ret_bool HD.out, (Below.refl _ _).alloc (Nat.le_refl _) _⟩
    · have hd : decide (0 ≤ p) = false := decide_eq_false hp
      have HD := Lib.hid (show seqB size (1, p) = false from by unfold seqB; simp <;> omega)
      go_enter Try.func25, Try.ntmps25
      go_wp2
      go_ret
      exact ⟨ret_bool HD.out, (Below.refl _ _).alloc (Nat.le_refl _) _⟩
  have n1 : (s == 1) = false := by simpa using h1
  by_cases h2 : s = 2
  · subst h2
    by_cases hp : 0 < p
    · have HD := Lib.hid (show seqB size (2, p) = decide (p < size) from by unfold seqB; rw [Bool.eq_iff_iff]; simp <;> omega)
      go_enter Try.func25, Try.ntmps25
      go_wp2
      go_ret
      exact ⟨ret_bool HD.out, (Below.refl _ _).alloc (Nat.le_refl _) _⟩
    · have hd : decide (0 < p) = false := decide_eq_false hp
      have HD := Lib.hid (show seqB size (2, p) = false from by unfold seqB; simp <;> omega)
      go_enter Try.func25, Try.ntmps25
      go_wp2
      go_ret
      exact ⟨ret_bool HD.out, (Below.refl _ _).alloc (Nat.le_refl _) _⟩
  have n2 : (s == 2) = false := by simpa using h2
  by_cases h3 : s = 3
  · subst h3
    by_cases hp : 0 ≤ p
    · have HD := Lib.hid (show seqB size (3, p) = decide (p ≤ size) from by unfold seqB; rw [Bool.eq_iff_iff]; simp <;> omega)
      go_enter Try.func25, Try.ntmps25
      go_wp2
      go_ret
      exact ⟨ret_bool HD.out, (Below.refl _ _).alloc (Nat.le_refl _) _⟩
    · have hd : decide (0 ≤ p) = false := decide_eq_false hp
      have HD := Lib.hid (show seqB size (3, p) = false from by unfold seqB; simp <;> omega)
      go_enter Try.func25, Try.ntmps25
      go_wp2
      go_ret
      exact ⟨ret_bool HD.out, (Below.refl _ _).alloc (Nat.le_refl _) _⟩
  have n3 : (s == 3) = false := by simpa using h3
  have HD := Lib.hid (show seqB size (s, p) = false from by unfold seqB; simp <;> omega)
  go_enter Try.func25, Try.ntmps25
  go_wp2
  go_ret
  exact ⟨ret_bool HD.out, (Below.refl _ _).alloc (Nat.le_refl _) _⟩

theorem has_any (conv soft seq size opn zone : Int) (A : Option Addr) (n cap : Nat) (w : World) (H : Some conv seq size) (hn : (n : Int) = conv + seq) :
    Calls Try.prog 39 #[.agg #[.int .i64 conv, .int .i64 soft, .int .i64 seq, .int .i64 size, .int .i64 opn], .slice A n cap, .int .i64 zone] w fun e w' => e = .returned (.bool (hasB conv seq zone)) ∧ Below w.heap.size w w' := by
  have HZ := Lib.hid fun w => zones_any conv soft seq size opn w H
  have hb0 : Below w.heap.size w (w.alloc (.cells #[.int .i64 conv, .int .i64 soft, .int .i64 seq, .int .i64 size, .int .i64 opn] 23)) := (Below.refl _ _).alloc (Nat.le_refl _) _
  obtain ⟨q1, q2, q3, q4, q5⟩ := H
  by_cases h : 0 ≤ zone
  · have HD := Lib.hid (show hasB conv seq zone = decide (zone < conv + seq) by unfold hasB; rw [Bool.eq_iff_iff]; simp [h])
    go_enter Try.func39, Try.ntmps39
    go_wp2_with fail
    refine (HZ.out _).mono ?_
    rintro e w1 ⟨rfl, hb⟩
    go_wp2
    go_ret
    exact ⟨ret_bool HD.out, bthen hb0 hb⟩
  · have hd : decide (0 ≤ zone) = false := decide_eq_false h
    have HD := Lib.hid (show hasB conv seq zone = false by unfold hasB; simp <;> omega)
    go_enter Try.func39, Try.ntmps39
    go_wp2
    go_ret
    exact ⟨ret_bool HD.out, hb0⟩
end Go.Proofs.Ytdcidjbgncbcpaa

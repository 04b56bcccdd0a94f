/-
  Package zone: Write's closure, the tests rightSoft, has; how many are open; a copy of zones.
-/
import Derived.Test.YtnpnnejopibjcaaZoneD
import Derived.Laws.StructEq
namespace Go.Proofs.Ytnpnnejopibjcaa
open Go.RowKit Geom Zone
set_option linter.unusedVariables false

theorem elemZ : Elem Try.prog 24 56 (.agg #[.int .i64 0, .int .i64 0]) 2 16 := .of Try.underlying24 (by kernel_rfl) rfl (by omega)
theorem guard_zone : Try.prog.eqGuardType Try.prog.depth 56 = false := by kernel_rfl
theorem equal_zone (w : World) (a b c d : Int) : (Op.equalIn 10000 56 (.agg #[.int .i64 a, .int .i64 b]) (.agg #[.int .i64 c, .int .i64 d])).run Try.prog w = .ok (a == c && b == d) w := by
  rw [run_equalIn_agg _ _ _ _ _ (by kernel_rfl) (by kernel_rfl)]
  simp [go_sem, Try.underlying56, Try.underlying3]
  by_cases h1 : a = c <;> by_cases h2 : b = d <;> simp [h1, h2]
theorem eql_zone (w : World) (a b c d : Int) : (binOp .eql 56 (.agg #[.int .i64 a, .int .i64 b]) (.agg #[.int .i64 c, .int .i64 d])).run Try.prog w = .ok (.bool (a == c && b == d)) w := by
  rw [run_eql_struct, equal_zone]
  rfl
theorem neq_zone (w : World) (a b c d : Int) : (binOp .neq 56 (.agg #[.int .i64 a, .int .i64 b]) (.agg #[.int .i64 c, .int .i64 d])).run Try.prog w = .ok (.bool (!(a == c && b == d))) w := by
  rw [run_neq_struct, equal_zone]
  rfl
theorem isnil_zone (w : World) (a : Option Addr) (n c : Nat) : (binOp .eql 24 (.slice a n c) (.slice none 0 0)).run Try.prog w = .ok (.bool a.isNone) w := Lib.run_eql_slice_nil w _ _ a n c 0 0 Try.underlying24

end Go.Proofs.Ytnpnnejopibjcaa

/-
  DevF
-/
import Derived.Test.YtgnpohkippegpaaGreatMg04
import Derived.Test.YtgnpohkippegpaaGreatMg05
/-
  Package dev: what a crash leaves: the closure that counts; a pointer that is set back.
-/
namespace Go.Proofs.YtgnpohkippegpaaGreat
open Go.RowKit Geom Zone Dev
set_option linter.unusedVariables false

/-- the lowest bit goes to the top -/
def Dev.rot (x : Int) : Int := bits BinOp.or IntKind.u64 (IntKind.u64.wrap (x * 9223372036854775808)) (x / 2)
abbrev ints (l : List Int) : List Value := l.map (Value.int .i64)
namespace Dev
/-- is a sector left? and the counts then -/
def lvs (conv : Int) (keep : List Int) (soft : Int) (kept : List Int) (zone : Int) : Bool × Int × List Int :=
  if zone < conv then (bits BinOp.and IntKind.u64 soft 1 == 1, rot soft, kept)
  else if keep.length ≤ (zone - conv).toNat ∨ keep.getD (zone - conv).toNat 0 ≤ kept.getD (zone - conv).toNat 0 then (false, soft, kept)
  else (true, soft, kept.set (zone - conv).toNat (kept.getD (zone - conv).toNat 0 + 1))
end Dev

section
variable {w : World} {d : Nat} {conv soft seq size opn : Int} {zv : Value} {lb : Nat} {cv : Value} {nb : Nat} {down : Bool} {armed ill : Int}
variable {bd bs' bw bk gk : Nat} {keepA : Option Addr} {kn kc : Nat} {keep : List Int} {soft0 tear : Int} {n : Nat} {sf : Int} {kept : List Int}
/-- a zone's number, and how many sequential ones stand ahead of it -/
theorem sub_at {z conv : Int} (h : conv ≤ z) (h0 : 0 ≤ conv) (h2 : z ≤ 100000) : ∃ i : Nat, z - conv = (i : Int) ∧ IntKind.i64.wrap (z - conv) = (i : Int) ∧ (z - conv).toNat = i := by
  refine ⟨(z - conv).toNat, by omega, ?_, rfl⟩
  rw [IntWalk.i64_in _ (by omega)]
  omega
end
end Go.Proofs.YtgnpohkippegpaaGreat

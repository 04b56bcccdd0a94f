/-
  No cell of these rows narrows 'for every input' (looked for: loops, veiled, ifaces, maps, wideKeys, modest, calm, conditions, laid).
  DERIVED. THE GIVEN ROWS OF THIS SEAT. 5 by the template 'for every input the law returns true; each argument reads behind the call as it read before'; 0 by the template 'total and deterministic' (their statements: YtjjomfpkdbfhdaaTotals.lean).
  GIVEN WITH THE SEED: the statements are not yours to turn. If you find one false, say at which input.
  Laid BY PROGRAM, IN A SANDBOX (cutbox-rows.mjs): the forced cells as the released guide's own fill.sh prints them over the translation 101cc9f90d1a1642… (all of the seat's roots in one cut). By AI agents, Wed Nov 11 2026. No macro, syntax, notation, axiom, sorry.
-/
import Derived.Test.YtjjomfpkdbfhdaaChecked
import GoSem.Claim
import GoSem.ClaimJoined
import GoSem.ClaimMapViews
import Derived.JoinedTies
import Derived.KernelRfl
namespace Go.Proofs.Ytjjomfpkdbfhdaa
/- THE CELL 'sum', in the pinned program and in every row, IS THE sha256 OF THE DUMP (.gsa) THAT YtjjomfpkdbfhdaaProg.lean LOADS. Nothing in Lean hashes anything: it is a label: what it is worth is what the hold of that sum in a sandbox is worth. -/
noncomputable def Try.pinned : Pinned := { name := "ytjjomfpkdbfhdaa", sum := "101cc9f90d1a1642dddd6df9ea8414ed0dbf6d916251d501e4c26eed9ce5e3f6", checked := Try.checked }
namespace Rows
def none {H : Type} : Left H := { results := [], args := [] }

/-- 'windrowlaw17.SnapActs': WHATEVER THE INPUT: true; the input reads as it did. -/
def snapActsSpec : ChangeSpec := { name := "snapActs", fn := fun _ => fun
  | [d1, d2, d3] => { results := [.lit (.bool true)], args := [d1, d2, d3] }
  | _ => none }
def snapActsRow : OpenClaim := { program := "ytjjomfpkdbfhdaa", sum := "101cc9f90d1a1642dddd6df9ea8414ed0dbf6d916251d501e4c26eed9ce5e3f6", func := "windrow/windrowlaw17.SnapActs", spec := "snapActs", unfollowed := true, recurses := true, plainKeys := false, apart := false }
def SnapActsSaid : Prop := snapActsRow.holds Try.pinned (OpenSpec.ofChange snapActsSpec)

/-- ITS FALSE NEIGHBOUR: 'it returns false'. Refute it at one input. -/
def snapActsWrong : ChangeSpec := { name := "snapActs", fn := fun _ => fun
  | [d1, d2, d3] => { results := [.lit (.bool false)], args := [d1, d2, d3] }
  | _ => none }
def SnapActsWrongFalsely : Prop := snapActsRow.holds Try.pinned (OpenSpec.ofChange snapActsWrong)

/-- 'windrowlaw17.SnapFold': WHATEVER THE INPUT: true; the input reads as it did. -/
def snapFoldSpec : ChangeSpec := { name := "snapFold", fn := fun _ => fun
  | [d1, d2, d3] => { results := [.lit (.bool true)], args := [d1, d2, d3] }
  | _ => none }
def snapFoldRow : OpenClaim := { program := "ytjjomfpkdbfhdaa", sum := "101cc9f90d1a1642dddd6df9ea8414ed0dbf6d916251d501e4c26eed9ce5e3f6", func := "windrow/windrowlaw17.SnapFold", spec := "snapFold", plainKeys := false, apart := false }
def SnapFoldSaid : Prop := snapFoldRow.holds Try.pinned (OpenSpec.ofChange snapFoldSpec)

/-- ITS FALSE NEIGHBOUR: 'it returns false'. Refute it at one input. -/
def snapFoldWrong : ChangeSpec := { name := "snapFold", fn := fun _ => fun
  | [d1, d2, d3] => { results := [.lit (.bool false)], args := [d1, d2, d3] }
  | _ => none }
def SnapFoldWrongFalsely : Prop := snapFoldRow.holds Try.pinned (OpenSpec.ofChange snapFoldWrong)

/-- 'windrowlaw17.SnapForgets': WHATEVER THE INPUT: true; the input reads as it did. -/
def snapForgetsSpec : ChangeSpec := { name := "snapForgets", fn := fun _ => fun
  | [d1, d2, d3, d4] => { results := [.lit (.bool true)], args := [d1, d2, d3, d4] }
  | _ => none }
def snapForgetsRow : OpenClaim := { program := "ytjjomfpkdbfhdaa", sum := "101cc9f90d1a1642dddd6df9ea8414ed0dbf6d916251d501e4c26eed9ce5e3f6", func := "windrow/windrowlaw17.SnapForgets", spec := "snapForgets", unfollowed := true, recurses := true, plainKeys := false, apart := false }
def SnapForgetsSaid : Prop := snapForgetsRow.holds Try.pinned (OpenSpec.ofChange snapForgetsSpec)

/-- ITS FALSE NEIGHBOUR: 'it returns false'. Refute it at one input. -/
def snapForgetsWrong : ChangeSpec := { name := "snapForgets", fn := fun _ => fun
  | [d1, d2, d3, d4] => { results := [.lit (.bool false)], args := [d1, d2, d3, d4] }
  | _ => none }
def SnapForgetsWrongFalsely : Prop := snapForgetsRow.holds Try.pinned (OpenSpec.ofChange snapForgetsWrong)

/-- 'windrowlaw17.SnapKeeps': WHATEVER THE INPUT: true; the input reads as it did. -/
def snapKeepsSpec : ChangeSpec := { name := "snapKeeps", fn := fun _ => fun
  | [d1, d2] => { results := [.lit (.bool true)], args := [d1, d2] }
  | _ => none }
def snapKeepsRow : OpenClaim := { program := "ytjjomfpkdbfhdaa", sum := "101cc9f90d1a1642dddd6df9ea8414ed0dbf6d916251d501e4c26eed9ce5e3f6", func := "windrow/windrowlaw17.SnapKeeps", spec := "snapKeeps", plainKeys := false, apart := false }
def SnapKeepsSaid : Prop := snapKeepsRow.holds Try.pinned (OpenSpec.ofChange snapKeepsSpec)

/-- ITS FALSE NEIGHBOUR: 'it returns false'. Refute it at one input. -/
def snapKeepsWrong : ChangeSpec := { name := "snapKeeps", fn := fun _ => fun
  | [d1, d2] => { results := [.lit (.bool false)], args := [d1, d2] }
  | _ => none }
def SnapKeepsWrongFalsely : Prop := snapKeepsRow.holds Try.pinned (OpenSpec.ofChange snapKeepsWrong)

/-- 'windrowlaw17.SnapLast': WHATEVER THE INPUT: true; the input reads as it did. -/
def snapLastSpec : ChangeSpec := { name := "snapLast", fn := fun _ => fun
  | [d1, d2] => { results := [.lit (.bool true)], args := [d1, d2] }
  | _ => none }
def snapLastRow : OpenClaim := { program := "ytjjomfpkdbfhdaa", sum := "101cc9f90d1a1642dddd6df9ea8414ed0dbf6d916251d501e4c26eed9ce5e3f6", func := "windrow/windrowlaw17.SnapLast", spec := "snapLast", unfollowed := true, recurses := true, plainKeys := false, apart := false }
def SnapLastSaid : Prop := snapLastRow.holds Try.pinned (OpenSpec.ofChange snapLastSpec)

/-- ITS FALSE NEIGHBOUR: 'it returns false'. Refute it at one input. -/
def snapLastWrong : ChangeSpec := { name := "snapLast", fn := fun _ => fun
  | [d1, d2] => { results := [.lit (.bool false)], args := [d1, d2] }
  | _ => none }
def SnapLastWrongFalsely : Prop := snapLastRow.holds Try.pinned (OpenSpec.ofChange snapLastWrong)

/- THE SECOND FORM. 'bulk': how many values and letters a reading holds, each counted each time it is reached (what is shared counts as often as it is met; a slice's spare places count too). A statement '..UptoSaid' is the law's where the arguments, and the package variables that the reading takes, are together of bulk at most 1048576: NARROWER than '..Said'. Prove '..Said' where nothing that the law and all that it calls make is longer than what came in: it says more and counts as full. Else prove '..UptoSaid'. A law counts once. -/
mutual
def uptoBulk {H : Type} : DataW H → Nat
  | .lit (.string bytes) => bytes.length + 1
  | .lit _ => 1
  | .nil => 1
  | .ptr d => uptoBulk d + 1
  | .slice elems spare => uptoBulkAll elems + uptoBulkAll spare + 1
  | .agg parts => uptoBulkAll parts + 1
  | .iface _ d => uptoBulk d + 1
  | .map entries => uptoBulkEntries entries + 1
  | .held _ => 1
def uptoBulkAll {H : Type} : List (DataW H) → Nat
  | [] => 0
  | d :: r => uptoBulk d + uptoBulkAll r
def uptoBulkEntries {H : Type} : List (Lit × DataW H) → Nat
  | [] => 0
  | x :: r => uptoBulkEntry x + uptoBulkEntries r
def uptoBulkEntry {H : Type} : Lit × DataW H → Nat
  | (.string bytes, d) => bytes.length + uptoBulk d + 1
  | (_, d) => uptoBulk d + 1
 end
def uptoSmall : (H : Type) → List (DataW H) → Bool := fun _ ds => decide (uptoBulkAll ds ≤ 1048576)
def OpenSpec.upto (s : _root_.Go.ChangeSpec) : _root_.Go.OpenSpec := { _root_.Go.OpenSpec.ofChange s with cond := some uptoSmall }

/-- 'windrowlaw17.SnapActs', WHERE WHAT IT READS IS OF BULK AT MOST 1048576: true; the input reads as it did. -/
def snapActsUptoRow : OpenClaim := { program := "ytjjomfpkdbfhdaa", sum := "101cc9f90d1a1642dddd6df9ea8414ed0dbf6d916251d501e4c26eed9ce5e3f6", func := "windrow/windrowlaw17.SnapActs", spec := "snapActs", unfollowed := true, recurses := true, plainKeys := false, apart := false, narrowed := true }
def SnapActsUptoSaid : Prop := snapActsUptoRow.holds Try.pinned (OpenSpec.upto snapActsSpec)

/-- 'windrowlaw17.SnapFold', WHERE WHAT IT READS IS OF BULK AT MOST 1048576: true; the input reads as it did. -/
def snapFoldUptoRow : OpenClaim := { program := "ytjjomfpkdbfhdaa", sum := "101cc9f90d1a1642dddd6df9ea8414ed0dbf6d916251d501e4c26eed9ce5e3f6", func := "windrow/windrowlaw17.SnapFold", spec := "snapFold", plainKeys := false, apart := false, narrowed := true }
def SnapFoldUptoSaid : Prop := snapFoldUptoRow.holds Try.pinned (OpenSpec.upto snapFoldSpec)

/-- 'windrowlaw17.SnapForgets', WHERE WHAT IT READS IS OF BULK AT MOST 1048576: true; the input reads as it did. -/
def snapForgetsUptoRow : OpenClaim := { program := "ytjjomfpkdbfhdaa", sum := "101cc9f90d1a1642dddd6df9ea8414ed0dbf6d916251d501e4c26eed9ce5e3f6", func := "windrow/windrowlaw17.SnapForgets", spec := "snapForgets", unfollowed := true, recurses := true, plainKeys := false, apart := false, narrowed := true }
def SnapForgetsUptoSaid : Prop := snapForgetsUptoRow.holds Try.pinned (OpenSpec.upto snapForgetsSpec)

/-- 'windrowlaw17.SnapKeeps', WHERE WHAT IT READS IS OF BULK AT MOST 1048576: true; the input reads as it did. -/
def snapKeepsUptoRow : OpenClaim := { program := "ytjjomfpkdbfhdaa", sum := "101cc9f90d1a1642dddd6df9ea8414ed0dbf6d916251d501e4c26eed9ce5e3f6", func := "windrow/windrowlaw17.SnapKeeps", spec := "snapKeeps", plainKeys := false, apart := false, narrowed := true }
def SnapKeepsUptoSaid : Prop := snapKeepsUptoRow.holds Try.pinned (OpenSpec.upto snapKeepsSpec)

/-- 'windrowlaw17.SnapLast', WHERE WHAT IT READS IS OF BULK AT MOST 1048576: true; the input reads as it did. -/
def snapLastUptoRow : OpenClaim := { program := "ytjjomfpkdbfhdaa", sum := "101cc9f90d1a1642dddd6df9ea8414ed0dbf6d916251d501e4c26eed9ce5e3f6", func := "windrow/windrowlaw17.SnapLast", spec := "snapLast", unfollowed := true, recurses := true, plainKeys := false, apart := false, narrowed := true }
def SnapLastUptoSaid : Prop := snapLastUptoRow.holds Try.pinned (OpenSpec.upto snapLastSpec)

end Rows
end Go.Proofs.Ytjjomfpkdbfhdaa

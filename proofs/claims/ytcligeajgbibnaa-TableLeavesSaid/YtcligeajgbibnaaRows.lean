/-
  No cell of these rows narrows 'for every input' (looked for: loops, veiled, ifaces, maps, wideKeys, modest, calm, conditions, laid).
  DERIVED. THE GIVEN ROWS OF THIS SEAT. 6 by the template 'for every input the law returns true; each argument reads behind the call as it read before'; 0 by the template 'total and deterministic' (their statements: YtcligeajgbibnaaTotals.lean).
  GIVEN WITH THE SEED: the statements are not yours to turn. If you find one false, say at which input.
  Laid BY PROGRAM, IN A SANDBOX (cutbox-rows.mjs): the forced cells as the released guide's own fill.sh prints them over the translation d5e26deda079065b… (all of the seat's roots in one cut). By AI agents, Wed Nov 11 2026. No macro, syntax, notation, axiom, sorry.
-/
import Derived.Test.YtcligeajgbibnaaChecked
import GoSem.Claim
import GoSem.ClaimJoined
import GoSem.ClaimMapViews
import Derived.JoinedTies
import Derived.KernelRfl
namespace Go.Proofs.Ytcligeajgbibnaa
/- THE CELL 'sum', in the pinned program and in every row, IS THE sha256 OF THE DUMP (.gsa) THAT YtcligeajgbibnaaProg.lean LOADS. Nothing in Lean hashes anything: it is a label: what it is worth is what the hold of that sum in a sandbox is worth. -/
noncomputable def Try.pinned : Pinned := { name := "ytcligeajgbibnaa", sum := "d5e26deda079065bbbfe9d10a2f07d26c21c1b2f0c7251e4cb2d9d7cf08e5b48", checked := Try.checked }
namespace Rows
def none {H : Type} : Left H := { results := [], args := [] }

/-- 'windrowlaw09.TableSets': WHATEVER THE INPUT: true; the input reads as it did. -/
def tableSetsSpec : ChangeSpec := { name := "tableSets", fn := fun _ => fun
  | [d1, d2, d3] => { results := [.lit (.bool true)], args := [d1, d2, d3] }
  | _ => none }
def tableSetsRow : OpenClaim := { program := "ytcligeajgbibnaa", sum := "d5e26deda079065bbbfe9d10a2f07d26c21c1b2f0c7251e4cb2d9d7cf08e5b48", func := "windrow/windrowlaw09.TableSets", spec := "tableSets", apart := false }
def TableSetsSaid : Prop := tableSetsRow.holds Try.pinned (OpenSpec.ofChange tableSetsSpec)

/-- ITS FALSE NEIGHBOUR: 'it returns false'. Refute it at one input. -/
def tableSetsWrong : ChangeSpec := { name := "tableSets", fn := fun _ => fun
  | [d1, d2, d3] => { results := [.lit (.bool false)], args := [d1, d2, d3] }
  | _ => none }
def TableSetsWrongFalsely : Prop := tableSetsRow.holds Try.pinned (OpenSpec.ofChange tableSetsWrong)

/-- 'windrowlaw09.TableOfs': WHATEVER THE INPUT: true; the input reads as it did. -/
def tableOfsSpec : ChangeSpec := { name := "tableOfs", fn := fun _ => fun
  | [d1, d2, d3] => { results := [.lit (.bool true)], args := [d1, d2, d3] }
  | _ => none }
def tableOfsRow : OpenClaim := { program := "ytcligeajgbibnaa", sum := "d5e26deda079065bbbfe9d10a2f07d26c21c1b2f0c7251e4cb2d9d7cf08e5b48", func := "windrow/windrowlaw09.TableOfs", spec := "tableOfs", apart := false }
def TableOfsSaid : Prop := tableOfsRow.holds Try.pinned (OpenSpec.ofChange tableOfsSpec)

/-- ITS FALSE NEIGHBOUR: 'it returns false'. Refute it at one input. -/
def tableOfsWrong : ChangeSpec := { name := "tableOfs", fn := fun _ => fun
  | [d1, d2, d3] => { results := [.lit (.bool false)], args := [d1, d2, d3] }
  | _ => none }
def TableOfsWrongFalsely : Prop := tableOfsRow.holds Try.pinned (OpenSpec.ofChange tableOfsWrong)

/-- 'windrowlaw09.TableLeaves': WHATEVER THE INPUT: true; the input reads as it did. -/
def tableLeavesSpec : ChangeSpec := { name := "tableLeaves", fn := fun _ => fun
  | [d1, d2, d3] => { results := [.lit (.bool true)], args := [d1, d2, d3] }
  | _ => none }
def tableLeavesRow : OpenClaim := { program := "ytcligeajgbibnaa", sum := "d5e26deda079065bbbfe9d10a2f07d26c21c1b2f0c7251e4cb2d9d7cf08e5b48", func := "windrow/windrowlaw09.TableLeaves", spec := "tableLeaves", apart := false }
def TableLeavesSaid : Prop := tableLeavesRow.holds Try.pinned (OpenSpec.ofChange tableLeavesSpec)

/-- ITS FALSE NEIGHBOUR: 'it returns false'. Refute it at one input. -/
def tableLeavesWrong : ChangeSpec := { name := "tableLeaves", fn := fun _ => fun
  | [d1, d2, d3] => { results := [.lit (.bool false)], args := [d1, d2, d3] }
  | _ => none }
def TableLeavesWrongFalsely : Prop := tableLeavesRow.holds Try.pinned (OpenSpec.ofChange tableLeavesWrong)

/-- 'windrowlaw09.TableKeeps': WHATEVER THE INPUT: true; the input reads as it did. -/
def tableKeepsSpec : ChangeSpec := { name := "tableKeeps", fn := fun _ => fun
  | [d1, d2] => { results := [.lit (.bool true)], args := [d1, d2] }
  | _ => none }
def tableKeepsRow : OpenClaim := { program := "ytcligeajgbibnaa", sum := "d5e26deda079065bbbfe9d10a2f07d26c21c1b2f0c7251e4cb2d9d7cf08e5b48", func := "windrow/windrowlaw09.TableKeeps", spec := "tableKeeps", apart := false }
def TableKeepsSaid : Prop := tableKeepsRow.holds Try.pinned (OpenSpec.ofChange tableKeepsSpec)

/-- ITS FALSE NEIGHBOUR: 'it returns false'. Refute it at one input. -/
def tableKeepsWrong : ChangeSpec := { name := "tableKeeps", fn := fun _ => fun
  | [d1, d2] => { results := [.lit (.bool false)], args := [d1, d2] }
  | _ => none }
def TableKeepsWrongFalsely : Prop := tableKeepsRow.holds Try.pinned (OpenSpec.ofChange tableKeepsWrong)

/-- 'windrowlaw09.TableUndo': WHATEVER THE INPUT: true; the input reads as it did. -/
def tableUndoSpec : ChangeSpec := { name := "tableUndo", fn := fun _ => fun
  | [d1, d2, d3, d4] => { results := [.lit (.bool true)], args := [d1, d2, d3, d4] }
  | _ => none }
def tableUndoRow : OpenClaim := { program := "ytcligeajgbibnaa", sum := "d5e26deda079065bbbfe9d10a2f07d26c21c1b2f0c7251e4cb2d9d7cf08e5b48", func := "windrow/windrowlaw09.TableUndo", spec := "tableUndo", apart := false }
def TableUndoSaid : Prop := tableUndoRow.holds Try.pinned (OpenSpec.ofChange tableUndoSpec)

/-- ITS FALSE NEIGHBOUR: 'it returns false'. Refute it at one input. -/
def tableUndoWrong : ChangeSpec := { name := "tableUndo", fn := fun _ => fun
  | [d1, d2, d3, d4] => { results := [.lit (.bool false)], args := [d1, d2, d3, d4] }
  | _ => none }
def TableUndoWrongFalsely : Prop := tableUndoRow.holds Try.pinned (OpenSpec.ofChange tableUndoWrong)

/-- 'windrowlaw09.TableCounts': WHATEVER THE INPUT: true; the input reads as it did. -/
def tableCountsSpec : ChangeSpec := { name := "tableCounts", fn := fun _ => fun
  | [d1, d2] => { results := [.lit (.bool true)], args := [d1, d2] }
  | _ => none }
def tableCountsRow : OpenClaim := { program := "ytcligeajgbibnaa", sum := "d5e26deda079065bbbfe9d10a2f07d26c21c1b2f0c7251e4cb2d9d7cf08e5b48", func := "windrow/windrowlaw09.TableCounts", spec := "tableCounts", apart := false }
def TableCountsSaid : Prop := tableCountsRow.holds Try.pinned (OpenSpec.ofChange tableCountsSpec)

/-- ITS FALSE NEIGHBOUR: 'it returns false'. Refute it at one input. -/
def tableCountsWrong : ChangeSpec := { name := "tableCounts", fn := fun _ => fun
  | [d1, d2] => { results := [.lit (.bool false)], args := [d1, d2] }
  | _ => none }
def TableCountsWrongFalsely : Prop := tableCountsRow.holds Try.pinned (OpenSpec.ofChange tableCountsWrong)

/- THE SECOND FORM. 'bulk': how many values and letters a reading holds, each counted each time it is reached (what is shared counts as often as it is met; a slice's spare places count too). A statement '..UptoSaid' is the law's where the arguments, and the package variables that the reading takes, are together of bulk at most 1048576: NARROWER than '..Said'. Prove '..Said' where nothing that the law and all that it calls make is longer than what came in: it says more and counts as full. Else prove '..UptoSaid'. A law counts once. -/
mutual
def uptoBulk {H : Type} : DataW H → Nat
  | .lit (.string bytes) => bytes.length + 1
  | .lit _ => 1
  | .nil => 1
  | .ptr d => uptoBulk d + 1
  | .slice elems spare => uptoBulkAll elems + uptoBulkAll spare + 1
  | .agg parts => uptoBulkAll parts + 1
  | .iface _ d => uptoBulk d + 1
  | .map entries => uptoBulkEntries entries + 1
  | .held _ => 1
def uptoBulkAll {H : Type} : List (DataW H) → Nat
  | [] => 0
  | d :: r => uptoBulk d + uptoBulkAll r
def uptoBulkEntries {H : Type} : List (Lit × DataW H) → Nat
  | [] => 0
  | x :: r => uptoBulkEntry x + uptoBulkEntries r
def uptoBulkEntry {H : Type} : Lit × DataW H → Nat
  | (.string bytes, d) => bytes.length + uptoBulk d + 1
  | (_, d) => uptoBulk d + 1
 end
def uptoSmall : (H : Type) → List (DataW H) → Bool := fun _ ds => decide (uptoBulkAll ds ≤ 1048576)
def OpenSpec.upto (s : _root_.Go.ChangeSpec) : _root_.Go.OpenSpec := { _root_.Go.OpenSpec.ofChange s with cond := some uptoSmall }

/-- 'windrowlaw09.TableSets', WHERE WHAT IT READS IS OF BULK AT MOST 1048576: true; the input reads as it did. -/
def tableSetsUptoRow : OpenClaim := { program := "ytcligeajgbibnaa", sum := "d5e26deda079065bbbfe9d10a2f07d26c21c1b2f0c7251e4cb2d9d7cf08e5b48", func := "windrow/windrowlaw09.TableSets", spec := "tableSets", apart := false, narrowed := true }
def TableSetsUptoSaid : Prop := tableSetsUptoRow.holds Try.pinned (OpenSpec.upto tableSetsSpec)

/-- 'windrowlaw09.TableOfs', WHERE WHAT IT READS IS OF BULK AT MOST 1048576: true; the input reads as it did. -/
def tableOfsUptoRow : OpenClaim := { program := "ytcligeajgbibnaa", sum := "d5e26deda079065bbbfe9d10a2f07d26c21c1b2f0c7251e4cb2d9d7cf08e5b48", func := "windrow/windrowlaw09.TableOfs", spec := "tableOfs", apart := false, narrowed := true }
def TableOfsUptoSaid : Prop := tableOfsUptoRow.holds Try.pinned (OpenSpec.upto tableOfsSpec)

/-- 'windrowlaw09.TableLeaves', WHERE WHAT IT READS IS OF BULK AT MOST 1048576: true; the input reads as it did. -/
def tableLeavesUptoRow : OpenClaim := { program := "ytcligeajgbibnaa", sum := "d5e26deda079065bbbfe9d10a2f07d26c21c1b2f0c7251e4cb2d9d7cf08e5b48", func := "windrow/windrowlaw09.TableLeaves", spec := "tableLeaves", apart := false, narrowed := true }
def TableLeavesUptoSaid : Prop := tableLeavesUptoRow.holds Try.pinned (OpenSpec.upto tableLeavesSpec)

/-- 'windrowlaw09.TableKeeps', WHERE WHAT IT READS IS OF BULK AT MOST 1048576: true; the input reads as it did. -/
def tableKeepsUptoRow : OpenClaim := { program := "ytcligeajgbibnaa", sum := "d5e26deda079065bbbfe9d10a2f07d26c21c1b2f0c7251e4cb2d9d7cf08e5b48", func := "windrow/windrowlaw09.TableKeeps", spec := "tableKeeps", apart := false, narrowed := true }
def TableKeepsUptoSaid : Prop := tableKeepsUptoRow.holds Try.pinned (OpenSpec.upto tableKeepsSpec)

/-- 'windrowlaw09.TableUndo', WHERE WHAT IT READS IS OF BULK AT MOST 1048576: true; the input reads as it did. -/
def tableUndoUptoRow : OpenClaim := { program := "ytcligeajgbibnaa", sum := "d5e26deda079065bbbfe9d10a2f07d26c21c1b2f0c7251e4cb2d9d7cf08e5b48", func := "windrow/windrowlaw09.TableUndo", spec := "tableUndo", apart := false, narrowed := true }
def TableUndoUptoSaid : Prop := tableUndoUptoRow.holds Try.pinned (OpenSpec.upto tableUndoSpec)

/-- 'windrowlaw09.TableCounts', WHERE WHAT IT READS IS OF BULK AT MOST 1048576: true; the input reads as it did. -/
def tableCountsUptoRow : OpenClaim := { program := "ytcligeajgbibnaa", sum := "d5e26deda079065bbbfe9d10a2f07d26c21c1b2f0c7251e4cb2d9d7cf08e5b48", func := "windrow/windrowlaw09.TableCounts", spec := "tableCounts", apart := false, narrowed := true }
def TableCountsUptoSaid : Prop := tableCountsUptoRow.holds Try.pinned (OpenSpec.upto tableCountsSpec)

end Rows
end Go.Proofs.Ytcligeajgbibnaa

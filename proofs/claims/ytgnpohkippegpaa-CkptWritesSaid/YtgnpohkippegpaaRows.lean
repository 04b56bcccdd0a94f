/-
  No cell of these rows narrows 'for every input' (looked for: loops, veiled, ifaces, maps, wideKeys, modest, calm, conditions, laid).
  DERIVED. THE GIVEN ROWS OF THIS SEAT. 4 by the template 'for every input the law returns true; each argument reads behind the call as it read before'; 0 by the template 'total and deterministic' (their statements: YtgnpohkippegpaaTotals.lean).
  GIVEN WITH THE SEED: the statements are not yours to turn. If you find one false, say at which input.
  Laid BY PROGRAM, IN A SANDBOX (cutbox-rows.mjs): the forced cells as the released guide's own fill.sh prints them over the translation 7f6e6c2043d00a83… (all of the seat's roots in one cut). By AI agents, Wed Nov 11 2026. No macro, syntax, notation, axiom, sorry.
-/
import Derived.Test.YtgnpohkippegpaaChecked
import GoSem.Claim
import GoSem.ClaimJoined
import GoSem.ClaimMapViews
import Derived.JoinedTies
import Derived.KernelRfl
namespace Go.Proofs.Ytgnpohkippegpaa
/- THE CELL 'sum', in the pinned program and in every row, IS THE sha256 OF THE DUMP (.gsa) THAT YtgnpohkippegpaaProg.lean LOADS. Nothing in Lean hashes anything: it is a label: what it is worth is what the hold of that sum in a sandbox is worth. -/
noncomputable def Try.pinned : Pinned := { name := "ytgnpohkippegpaa", sum := "7f6e6c2043d00a834aae01c4a0c85faabc6dacbee2201721247c2905b2c09371", checked := Try.checked }
namespace Rows
def none {H : Type} : Left H := { results := [], args := [] }

/-- 'windrowlaw13.CkptWrites': WHATEVER THE INPUT: true; the input reads as it did. -/
def ckptWritesSpec : ChangeSpec := { name := "ckptWrites", fn := fun _ => fun
  | [d1, d2, d3] => { results := [.lit (.bool true)], args := [d1, d2, d3] }
  | _ => none }
def ckptWritesRow : OpenClaim := { program := "ytgnpohkippegpaa", sum := "7f6e6c2043d00a834aae01c4a0c85faabc6dacbee2201721247c2905b2c09371", func := "windrow/windrowlaw13.CkptWrites", spec := "ckptWrites", unfollowed := true, recurses := true, plainKeys := false, apart := false }
def CkptWritesSaid : Prop := ckptWritesRow.holds Try.pinned (OpenSpec.ofChange ckptWritesSpec)

/-- ITS FALSE NEIGHBOUR: 'it returns false'. Refute it at one input. -/
def ckptWritesWrong : ChangeSpec := { name := "ckptWrites", fn := fun _ => fun
  | [d1, d2, d3] => { results := [.lit (.bool false)], args := [d1, d2, d3] }
  | _ => none }
def CkptWritesWrongFalsely : Prop := ckptWritesRow.holds Try.pinned (OpenSpec.ofChange ckptWritesWrong)

/-- 'windrowlaw13.CkptLasts': WHATEVER THE INPUT: true; the input reads as it did. -/
def ckptLastsSpec : ChangeSpec := { name := "ckptLasts", fn := fun _ => fun
  | [d1, d2, d3, d4, d5, d6] => { results := [.lit (.bool true)], args := [d1, d2, d3, d4, d5, d6] }
  | _ => none }
def ckptLastsRow : OpenClaim := { program := "ytgnpohkippegpaa", sum := "7f6e6c2043d00a834aae01c4a0c85faabc6dacbee2201721247c2905b2c09371", func := "windrow/windrowlaw13.CkptLasts", spec := "ckptLasts", unfollowed := true, recurses := true, plainKeys := false, apart := false }
def CkptLastsSaid : Prop := ckptLastsRow.holds Try.pinned (OpenSpec.ofChange ckptLastsSpec)

/-- ITS FALSE NEIGHBOUR: 'it returns false'. Refute it at one input. -/
def ckptLastsWrong : ChangeSpec := { name := "ckptLasts", fn := fun _ => fun
  | [d1, d2, d3, d4, d5, d6] => { results := [.lit (.bool false)], args := [d1, d2, d3, d4, d5, d6] }
  | _ => none }
def CkptLastsWrongFalsely : Prop := ckptLastsRow.holds Try.pinned (OpenSpec.ofChange ckptLastsWrong)

/-- 'windrowlaw13.CkptTurns': WHATEVER THE INPUT: true; the input reads as it did. -/
def ckptTurnsSpec : ChangeSpec := { name := "ckptTurns", fn := fun _ => fun
  | [d1, d2] => { results := [.lit (.bool true)], args := [d1, d2] }
  | _ => none }
def ckptTurnsRow : OpenClaim := { program := "ytgnpohkippegpaa", sum := "7f6e6c2043d00a834aae01c4a0c85faabc6dacbee2201721247c2905b2c09371", func := "windrow/windrowlaw13.CkptTurns", spec := "ckptTurns", unfollowed := true, recurses := true, plainKeys := false, apart := false }
def CkptTurnsSaid : Prop := ckptTurnsRow.holds Try.pinned (OpenSpec.ofChange ckptTurnsSpec)

/-- ITS FALSE NEIGHBOUR: 'it returns false'. Refute it at one input. -/
def ckptTurnsWrong : ChangeSpec := { name := "ckptTurns", fn := fun _ => fun
  | [d1, d2] => { results := [.lit (.bool false)], args := [d1, d2] }
  | _ => none }
def CkptTurnsWrongFalsely : Prop := ckptTurnsRow.holds Try.pinned (OpenSpec.ofChange ckptTurnsWrong)

/-- 'windrowlaw13.CkptOrder': WHATEVER THE INPUT: true; the input reads as it did. -/
def ckptOrderSpec : ChangeSpec := { name := "ckptOrder", fn := fun _ => fun
  | [d1, d2, d3, d4, d5] => { results := [.lit (.bool true)], args := [d1, d2, d3, d4, d5] }
  | _ => none }
def ckptOrderRow : OpenClaim := { program := "ytgnpohkippegpaa", sum := "7f6e6c2043d00a834aae01c4a0c85faabc6dacbee2201721247c2905b2c09371", func := "windrow/windrowlaw13.CkptOrder", spec := "ckptOrder", unfollowed := true, recurses := true, plainKeys := false, apart := false }
def CkptOrderSaid : Prop := ckptOrderRow.holds Try.pinned (OpenSpec.ofChange ckptOrderSpec)

/-- ITS FALSE NEIGHBOUR: 'it returns false'. Refute it at one input. -/
def ckptOrderWrong : ChangeSpec := { name := "ckptOrder", fn := fun _ => fun
  | [d1, d2, d3, d4, d5] => { results := [.lit (.bool false)], args := [d1, d2, d3, d4, d5] }
  | _ => none }
def CkptOrderWrongFalsely : Prop := ckptOrderRow.holds Try.pinned (OpenSpec.ofChange ckptOrderWrong)

/- THE SECOND FORM. 'bulk': how many values and letters a reading holds, each counted each time it is reached (what is shared counts as often as it is met; a slice's spare places count too). A statement '..UptoSaid' is the law's where the arguments, and the package variables that the reading takes, are together of bulk at most 1048576: NARROWER than '..Said'. Prove '..Said' where nothing that the law and all that it calls make is longer than what came in: it says more and counts as full. Else prove '..UptoSaid'. A law counts once. -/
mutual
def uptoBulk {H : Type} : DataW H → Nat
  | .lit (.string bytes) => bytes.length + 1
  | .lit _ => 1
  | .nil => 1
  | .ptr d => uptoBulk d + 1
  | .slice elems spare => uptoBulkAll elems + uptoBulkAll spare + 1
  | .agg parts => uptoBulkAll parts + 1
  | .iface _ d => uptoBulk d + 1
  | .map entries => uptoBulkEntries entries + 1
  | .held _ => 1
def uptoBulkAll {H : Type} : List (DataW H) → Nat
  | [] => 0
  | d :: r => uptoBulk d + uptoBulkAll r
def uptoBulkEntries {H : Type} : List (Lit × DataW H) → Nat
  | [] => 0
  | x :: r => uptoBulkEntry x + uptoBulkEntries r
def uptoBulkEntry {H : Type} : Lit × DataW H → Nat
  | (.string bytes, d) => bytes.length + uptoBulk d + 1
  | (_, d) => uptoBulk d + 1
 end
def uptoSmall : (H : Type) → List (DataW H) → Bool := fun _ ds => decide (uptoBulkAll ds ≤ 1048576)
def OpenSpec.upto (s : _root_.Go.ChangeSpec) : _root_.Go.OpenSpec := { _root_.Go.OpenSpec.ofChange s with cond := some uptoSmall }

/-- 'windrowlaw13.CkptWrites', WHERE WHAT IT READS IS OF BULK AT MOST 1048576: true; the input reads as it did. -/
def ckptWritesUptoRow : OpenClaim := { program := "ytgnpohkippegpaa", sum := "7f6e6c2043d00a834aae01c4a0c85faabc6dacbee2201721247c2905b2c09371", func := "windrow/windrowlaw13.CkptWrites", spec := "ckptWrites", unfollowed := true, recurses := true, plainKeys := false, apart := false, narrowed := true }
def CkptWritesUptoSaid : Prop := ckptWritesUptoRow.holds Try.pinned (OpenSpec.upto ckptWritesSpec)

/-- 'windrowlaw13.CkptLasts', WHERE WHAT IT READS IS OF BULK AT MOST 1048576: true; the input reads as it did. -/
def ckptLastsUptoRow : OpenClaim := { program := "ytgnpohkippegpaa", sum := "7f6e6c2043d00a834aae01c4a0c85faabc6dacbee2201721247c2905b2c09371", func := "windrow/windrowlaw13.CkptLasts", spec := "ckptLasts", unfollowed := true, recurses := true, plainKeys := false, apart := false, narrowed := true }
def CkptLastsUptoSaid : Prop := ckptLastsUptoRow.holds Try.pinned (OpenSpec.upto ckptLastsSpec)

/-- 'windrowlaw13.CkptTurns', WHERE WHAT IT READS IS OF BULK AT MOST 1048576: true; the input reads as it did. -/
def ckptTurnsUptoRow : OpenClaim := { program := "ytgnpohkippegpaa", sum := "7f6e6c2043d00a834aae01c4a0c85faabc6dacbee2201721247c2905b2c09371", func := "windrow/windrowlaw13.CkptTurns", spec := "ckptTurns", unfollowed := true, recurses := true, plainKeys := false, apart := false, narrowed := true }
def CkptTurnsUptoSaid : Prop := ckptTurnsUptoRow.holds Try.pinned (OpenSpec.upto ckptTurnsSpec)

/-- 'windrowlaw13.CkptOrder', WHERE WHAT IT READS IS OF BULK AT MOST 1048576: true; the input reads as it did. -/
def ckptOrderUptoRow : OpenClaim := { program := "ytgnpohkippegpaa", sum := "7f6e6c2043d00a834aae01c4a0c85faabc6dacbee2201721247c2905b2c09371", func := "windrow/windrowlaw13.CkptOrder", spec := "ckptOrder", unfollowed := true, recurses := true, plainKeys := false, apart := false, narrowed := true }
def CkptOrderUptoSaid : Prop := ckptOrderUptoRow.holds Try.pinned (OpenSpec.upto ckptOrderSpec)

end Rows
end Go.Proofs.Ytgnpohkippegpaa

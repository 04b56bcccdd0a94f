/-
  No cell of these rows narrows 'for every input' (looked for: loops, veiled, ifaces, maps, wideKeys, modest, calm, conditions, laid).
  DERIVED. THE GIVEN ROWS OF THIS SEAT. 5 by the template 'for every input the law returns true; each argument reads behind the call as it read before'; 0 by the template 'total and deterministic' (their statements: YtoehflalpidhfaaTotals.lean).
  GIVEN WITH THE SEED: the statements are not yours to turn. If you find one false, say at which input.
  Laid BY PROGRAM, IN A SANDBOX (cutbox-rows.mjs): the forced cells as the released guide's own fill.sh prints them over the translation 365916b1fae4073c… (all of the seat's roots in one cut). By AI agents, Wed Nov 11 2026. No macro, syntax, notation, axiom, sorry.
-/
import Derived.Test.YtoehflalpidhfaaChecked
import GoSem.Claim
import GoSem.ClaimJoined
import GoSem.ClaimMapViews
import Derived.JoinedTies
import Derived.KernelRfl
namespace Go.Proofs.Ytoehflalpidhfaa
/- THE CELL 'sum', in the pinned program and in every row, IS THE sha256 OF THE DUMP (.gsa) THAT YtoehflalpidhfaaProg.lean LOADS. Nothing in Lean hashes anything: it is a label: what it is worth is what the hold of that sum in a sandbox is worth. -/
noncomputable def Try.pinned : Pinned := { name := "ytoehflalpidhfaa", sum := "365916b1fae4073c5c6e15b45a0fb621c611d2217853c9150e2b9d75fe5dc75d", checked := Try.checked }
namespace Rows
def none {H : Type} : Left H := { results := [], args := [] }

/-- 'windrowlaw08.MastLays': WHATEVER THE INPUT: true; the input reads as it did. -/
def mastLaysSpec : ChangeSpec := { name := "mastLays", fn := fun _ => fun
  | [d] => { results := [.lit (.bool true)], args := [d] }
  | _ => none }
def mastLaysRow : OpenClaim := { program := "ytoehflalpidhfaa", sum := "365916b1fae4073c5c6e15b45a0fb621c611d2217853c9150e2b9d75fe5dc75d", func := "windrow/windrowlaw08.MastLays", spec := "mastLays", apart := false }
def MastLaysSaid : Prop := mastLaysRow.holds Try.pinned (OpenSpec.ofChange mastLaysSpec)

/-- ITS FALSE NEIGHBOUR: 'it returns false'. Refute it at one input. -/
def mastLaysWrong : ChangeSpec := { name := "mastLays", fn := fun _ => fun
  | [d] => { results := [.lit (.bool false)], args := [d] }
  | _ => none }
def MastLaysWrongFalsely : Prop := mastLaysRow.holds Try.pinned (OpenSpec.ofChange mastLaysWrong)

/-- 'windrowlaw08.MastReads': WHATEVER THE INPUT: true; the input reads as it did. -/
def mastReadsSpec : ChangeSpec := { name := "mastReads", fn := fun _ => fun
  | [d1, d2] => { results := [.lit (.bool true)], args := [d1, d2] }
  | _ => none }
def mastReadsRow : OpenClaim := { program := "ytoehflalpidhfaa", sum := "365916b1fae4073c5c6e15b45a0fb621c611d2217853c9150e2b9d75fe5dc75d", func := "windrow/windrowlaw08.MastReads", spec := "mastReads", apart := false }
def MastReadsSaid : Prop := mastReadsRow.holds Try.pinned (OpenSpec.ofChange mastReadsSpec)

/-- ITS FALSE NEIGHBOUR: 'it returns false'. Refute it at one input. -/
def mastReadsWrong : ChangeSpec := { name := "mastReads", fn := fun _ => fun
  | [d1, d2] => { results := [.lit (.bool false)], args := [d1, d2] }
  | _ => none }
def MastReadsWrongFalsely : Prop := mastReadsRow.holds Try.pinned (OpenSpec.ofChange mastReadsWrong)

/-- 'windrowlaw08.MastBack': WHATEVER THE INPUT: true; the input reads as it did. -/
def mastBackSpec : ChangeSpec := { name := "mastBack", fn := fun _ => fun
  | [d1, d2, d3] => { results := [.lit (.bool true)], args := [d1, d2, d3] }
  | _ => none }
def mastBackRow : OpenClaim := { program := "ytoehflalpidhfaa", sum := "365916b1fae4073c5c6e15b45a0fb621c611d2217853c9150e2b9d75fe5dc75d", func := "windrow/windrowlaw08.MastBack", spec := "mastBack", apart := false }
def MastBackSaid : Prop := mastBackRow.holds Try.pinned (OpenSpec.ofChange mastBackSpec)

/-- ITS FALSE NEIGHBOUR: 'it returns false'. Refute it at one input. -/
def mastBackWrong : ChangeSpec := { name := "mastBack", fn := fun _ => fun
  | [d1, d2, d3] => { results := [.lit (.bool false)], args := [d1, d2, d3] }
  | _ => none }
def MastBackWrongFalsely : Prop := mastBackRow.holds Try.pinned (OpenSpec.ofChange mastBackWrong)

/-- 'windrowlaw08.MastAlone': WHATEVER THE INPUT: true; the input reads as it did. -/
def mastAloneSpec : ChangeSpec := { name := "mastAlone", fn := fun _ => fun
  | [d1, d2, d3, d4] => { results := [.lit (.bool true)], args := [d1, d2, d3, d4] }
  | _ => none }
def mastAloneRow : OpenClaim := { program := "ytoehflalpidhfaa", sum := "365916b1fae4073c5c6e15b45a0fb621c611d2217853c9150e2b9d75fe5dc75d", func := "windrow/windrowlaw08.MastAlone", spec := "mastAlone", apart := false }
def MastAloneSaid : Prop := mastAloneRow.holds Try.pinned (OpenSpec.ofChange mastAloneSpec)

/-- ITS FALSE NEIGHBOUR: 'it returns false'. Refute it at one input. -/
def mastAloneWrong : ChangeSpec := { name := "mastAlone", fn := fun _ => fun
  | [d1, d2, d3, d4] => { results := [.lit (.bool false)], args := [d1, d2, d3, d4] }
  | _ => none }
def MastAloneWrongFalsely : Prop := mastAloneRow.holds Try.pinned (OpenSpec.ofChange mastAloneWrong)

/-- 'windrowlaw08.MastOnly': WHATEVER THE INPUT: true; the input reads as it did. -/
def mastOnlySpec : ChangeSpec := { name := "mastOnly", fn := fun _ => fun
  | [d1, d2] => { results := [.lit (.bool true)], args := [d1, d2] }
  | _ => none }
def mastOnlyRow : OpenClaim := { program := "ytoehflalpidhfaa", sum := "365916b1fae4073c5c6e15b45a0fb621c611d2217853c9150e2b9d75fe5dc75d", func := "windrow/windrowlaw08.MastOnly", spec := "mastOnly", apart := false }
def MastOnlySaid : Prop := mastOnlyRow.holds Try.pinned (OpenSpec.ofChange mastOnlySpec)

/-- ITS FALSE NEIGHBOUR: 'it returns false'. Refute it at one input. -/
def mastOnlyWrong : ChangeSpec := { name := "mastOnly", fn := fun _ => fun
  | [d1, d2] => { results := [.lit (.bool false)], args := [d1, d2] }
  | _ => none }
def MastOnlyWrongFalsely : Prop := mastOnlyRow.holds Try.pinned (OpenSpec.ofChange mastOnlyWrong)

/- THE SECOND FORM. 'bulk': how many values and letters a reading holds, each counted each time it is reached (what is shared counts as often as it is met; a slice's spare places count too). A statement '..UptoSaid' is the law's where the arguments, and the package variables that the reading takes, are together of bulk at most 1048576: NARROWER than '..Said'. Prove '..Said' where nothing that the law and all that it calls make is longer than what came in: it says more and counts as full. Else prove '..UptoSaid'. A law counts once. -/
mutual
def uptoBulk {H : Type} : DataW H → Nat
  | .lit (.string bytes) => bytes.length + 1
  | .lit _ => 1
  | .nil => 1
  | .ptr d => uptoBulk d + 1
  | .slice elems spare => uptoBulkAll elems + uptoBulkAll spare + 1
  | .agg parts => uptoBulkAll parts + 1
  | .iface _ d => uptoBulk d + 1
  | .map entries => uptoBulkEntries entries + 1
  | .held _ => 1
def uptoBulkAll {H : Type} : List (DataW H) → Nat
  | [] => 0
  | d :: r => uptoBulk d + uptoBulkAll r
def uptoBulkEntries {H : Type} : List (Lit × DataW H) → Nat
  | [] => 0
  | x :: r => uptoBulkEntry x + uptoBulkEntries r
def uptoBulkEntry {H : Type} : Lit × DataW H → Nat
  | (.string bytes, d) => bytes.length + uptoBulk d + 1
  | (_, d) => uptoBulk d + 1
 end
def uptoSmall : (H : Type) → List (DataW H) → Bool := fun _ ds => decide (uptoBulkAll ds ≤ 1048576)
def OpenSpec.upto (s : _root_.Go.ChangeSpec) : _root_.Go.OpenSpec := { _root_.Go.OpenSpec.ofChange s with cond := some uptoSmall }

/-- 'windrowlaw08.MastLays', WHERE WHAT IT READS IS OF BULK AT MOST 1048576: true; the input reads as it did. -/
def mastLaysUptoRow : OpenClaim := { program := "ytoehflalpidhfaa", sum := "365916b1fae4073c5c6e15b45a0fb621c611d2217853c9150e2b9d75fe5dc75d", func := "windrow/windrowlaw08.MastLays", spec := "mastLays", apart := false, narrowed := true }
def MastLaysUptoSaid : Prop := mastLaysUptoRow.holds Try.pinned (OpenSpec.upto mastLaysSpec)

/-- 'windrowlaw08.MastReads', WHERE WHAT IT READS IS OF BULK AT MOST 1048576: true; the input reads as it did. -/
def mastReadsUptoRow : OpenClaim := { program := "ytoehflalpidhfaa", sum := "365916b1fae4073c5c6e15b45a0fb621c611d2217853c9150e2b9d75fe5dc75d", func := "windrow/windrowlaw08.MastReads", spec := "mastReads", apart := false, narrowed := true }
def MastReadsUptoSaid : Prop := mastReadsUptoRow.holds Try.pinned (OpenSpec.upto mastReadsSpec)

/-- 'windrowlaw08.MastBack', WHERE WHAT IT READS IS OF BULK AT MOST 1048576: true; the input reads as it did. -/
def mastBackUptoRow : OpenClaim := { program := "ytoehflalpidhfaa", sum := "365916b1fae4073c5c6e15b45a0fb621c611d2217853c9150e2b9d75fe5dc75d", func := "windrow/windrowlaw08.MastBack", spec := "mastBack", apart := false, narrowed := true }
def MastBackUptoSaid : Prop := mastBackUptoRow.holds Try.pinned (OpenSpec.upto mastBackSpec)

/-- 'windrowlaw08.MastAlone', WHERE WHAT IT READS IS OF BULK AT MOST 1048576: true; the input reads as it did. -/
def mastAloneUptoRow : OpenClaim := { program := "ytoehflalpidhfaa", sum := "365916b1fae4073c5c6e15b45a0fb621c611d2217853c9150e2b9d75fe5dc75d", func := "windrow/windrowlaw08.MastAlone", spec := "mastAlone", apart := false, narrowed := true }
def MastAloneUptoSaid : Prop := mastAloneUptoRow.holds Try.pinned (OpenSpec.upto mastAloneSpec)

/-- 'windrowlaw08.MastOnly', WHERE WHAT IT READS IS OF BULK AT MOST 1048576: true; the input reads as it did. -/
def mastOnlyUptoRow : OpenClaim := { program := "ytoehflalpidhfaa", sum := "365916b1fae4073c5c6e15b45a0fb621c611d2217853c9150e2b9d75fe5dc75d", func := "windrow/windrowlaw08.MastOnly", spec := "mastOnly", apart := false, narrowed := true }
def MastOnlyUptoSaid : Prop := mastOnlyUptoRow.holds Try.pinned (OpenSpec.upto mastOnlySpec)

end Rows
end Go.Proofs.Ytoehflalpidhfaa

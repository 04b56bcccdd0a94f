/-
  A map whose keys are places (pairs of integers): told as a function. Nothing here looks at an element: it is read as itself.
-/
import Derived.Test.YtjjomfpkdbfhdaaProg
import Derived.Test.YtjjomfpkdbfhdaaMem
import Derived.Maps.OwnSet
import Derived.Maps.Views
import Derived.DeepKeys5
namespace Go.Proofs.Ytjjomfpkdbfhdaa
open Go.RowKit
set_option linter.unusedVariables false

abbrev W64 (a : Int) : Prop := (Lit.int .i64 a).wf = true
abbrev atv (a : Int × Int) : Value := .agg #[.int .i64 a.1, .int .i64 a.2]
theorem keyOf_two {P : Program} {k e : TypeId} {f0 f1 : Field} {q : IntKind} {m : Nat} (hu : P.underlying k = some (.struct #[f0, f1])) (hk : P.keyType k = true) (hsz : P.types.size = m + 1) (hc : P.cellsOf k = 2) (he : P.underlying e = some (.int q)) (hc2 : P.cellsOf e = 1)
    (h0 : f0.type = e) (h1 : f1.type = e) (o0 : f0.offset = 0) (o1 : f1.offset = 1) (n0 : (f0.name != "_") = true) (n1 : (f1.name != "_") = true) {a b : Int} (wa : (Lit.int q a).wf = true) (wb : (Lit.int q b).wf = true) :
    keyOf P k (.agg #[.int q a, .int q b]) = some (.string (keyBytes [.int q a, .int q b])) := by
  unfold keyOf
  simp only [hu]
  rw [if_pos (by simp [hk, Value.formed, hu, hc]), hsz]
  unfold Program.keyLits
  simp only [hu, Value.cells]
  rw [if_pos ⟨by rw [hc]; rfl, by simp [n0, n1]⟩]
  simp only [List.mapM_cons, List.mapM_nil]
  rw [h0, h1, o0, o1, hc2]
  have hi : ∀ c : Int, (Lit.int q c).wf = true → P.keyLits (m + 1) e [.int q c] = some [.int q c] := by
    intro c hc
    unfold Program.keyLits
    simp [he, hc]
  simp [hi a wa, hi b wb]

/-- an element is read as itself -/
def asIs (v : Value) : Option (DataW Value × List MemPlace) := some (.held v, [])
def unheld : DataW Value → Option Value
  | .held v => some v
  | _ => none
/-- what stands at a key -/
def lookD (D : DataW Value) (l : Lit) : Option Value := if Maps.has D l then unheld (D.atKey l .nil) else none

def updM (f : Int × Int → Option Value) (a : Int × Int) (v : Option Value) : Int × Int → Option Value := fun x => if x = a then v else f x

section
variable {w w' : World} {b n : Nat} {f : Int × Int → Option Value}
end

/-! at the operation -/
section
variable (w : World) {ops : Array Oper} {rest : List Oper} {o : Oper} {a : Act} {Q : Exit → Act → World → Prop}
end
end Go.Proofs.Ytjjomfpkdbfhdaa

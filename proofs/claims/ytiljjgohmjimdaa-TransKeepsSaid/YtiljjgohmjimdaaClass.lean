/-
  A region that draws its order, whose operations read cells that stay and whose callees make memory: one walk, in the order of the text, in any world of a class that the prover names. Nothing here speaks of one program.
-/
import Derived.Deep.Quiet
import Derived.Deep.QuietTactic
import Derived.BigQuiet
namespace Go.Proofs.Ytiljjgohmjimdaa
open Go.RowKit

section
variable {P : Program}
/-- The class is 'S': the worlds of it are 'f x', so that a fact on the cells of every 'f x' is a rule of the walk's simp. -/
theorem wp_region_class {id : Nat} {Q : Exit → Act → World → Prop} {a : Act} {w : World} {l : List Oper} (S : World → Prop) (hm : P.follows .mixedOrders = true) (hB : Region.lexB .any l.toArray = true) (hS : S w.drew)
    (h : ∀ (X : Type) (_ : Nonempty X) (f : X → World), (∀ x, S (f x)) → (∀ w', S w' → ∃ x, w' = f x) →
      wpQuiet P l.toArray (fun w' => ∃ x, w' = f x) (fun a' => ∀ w', (∃ x, w' = f x) → Q .normal a' w') l a) : (Code.region id l.toArray true).wp P Q a w :=
  wp_region_quiet (C := fun w' => ∃ x : { w' : World // S w' }, w' = x.val) hm hB ⟨⟨w.drew, hS⟩, rfl⟩
    (by simpa using h { w' : World // S w' } ⟨⟨w.drew, hS⟩⟩ (fun x => x.val) (fun x => x.property) (fun w' hw => ⟨⟨w', hw⟩, rfl⟩))

/-- A callee's contract, met in a world of the class. -/
theorem calls_class {X : Type} {f : X → World} {F : FuncId} {args : Array Value} {x : X} {v : Value} {R : World → Prop} (h : Calls P F args (f x) fun e w' => e = .returned v ∧ R w') (hR : ∀ w', R w' → ∃ y, w' = f y) :
    Calls P F args (f x) fun e w'' => e = .returned v ∧ ∃ y, w'' = f y :=
  h.mono fun _ _ ⟨he, hr⟩ => ⟨he, hR _ hr⟩
end
end Go.Proofs.Ytiljjgohmjimdaa

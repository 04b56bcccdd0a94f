/-
  Regions walked by hand, more: two or three operations that may come up; a variable made at a step; all orders end at one frame.
-/
import Derived.Test.YtiljjgohmjimdaaHeldT
import Derived.Test.YtiljjgohmjimdaaBig
namespace Go.Proofs.Ytiljjgohmjimdaa
open Go.RowKit
set_option linter.unusedVariables false

section
variable {P : Program} {ops : Array Oper} {Q : Exit → Act → World → Prop} {md : Region.Mode} {S : World → Prop}
theorem held_two {l : List Oper} {n f i j : Nat} {oi oj : Oper} {listed : Array Bool} {a : Act} {w : World} (hoi : ops[i]? = some oi) (hoj : ops[j]? = some oj) (hr : Region.ready md ops listed = [i, j]) (hin : i < n) (hjn : j < n)
    (h1 : ∀ K' : Act → World → Prop, Shut (∀ a w, S w → HeldT P md ops Q S l n f (listed.setIfInBounds i true) a w → K' a w) → if Region.wanted oi (yielded ops a.tmps) = true then Oper.wp P oi a w K' Q else K' (a.put oi.dst undef) w)
    (h2 : ∀ K' : Act → World → Prop, Shut (∀ a w, S w → HeldT P md ops Q S l n f (listed.setIfInBounds j true) a w → K' a w) → if Region.wanted oj (yielded ops a.tmps) = true then Oper.wp P oj a w K' Q else K' (a.put oj.dst undef) w) :
    HeldT P md ops Q S l n (f + 1) listed a w := fun inv => by
  have hmi : i ∈ Region.ready md ops listed := by rw [hr]; simp
  have hmj : j ∈ Region.ready md ops listed := by rw [hr]; simp
  refine ⟨fun h0 => (by rw [h0] at hr; cases hr), fun k hk => ?_⟩
  rw [hr] at hk
  rcases List.mem_cons.1 hk with rfl | hk
  · exact ⟨hin, wpOp_step hoi (fun K' hK => h1 K' (fun a w hS hW => hK a w ⟨hS, hW (inv.set hmi hin)⟩))⟩
  · obtain rfl := List.mem_singleton.1 hk
    exact ⟨hjn, wpOp_step hoj (fun K' hK => h2 K' (fun a w hS hW => hK a w ⟨hS, hW (inv.set hmj hjn)⟩))⟩
theorem held_three {l : List Oper} {n f i j k : Nat} {oi oj ok : Oper} {listed : Array Bool} {a : Act} {w : World} (hoi : ops[i]? = some oi) (hoj : ops[j]? = some oj) (hok : ops[k]? = some ok) (hr : Region.ready md ops listed = [i, j, k]) (hin : i < n) (hjn : j < n) (hkn : k < n)
    (h1 : ∀ K' : Act → World → Prop, Shut (∀ a w, S w → HeldT P md ops Q S l n f (listed.setIfInBounds i true) a w → K' a w) → if Region.wanted oi (yielded ops a.tmps) = true then Oper.wp P oi a w K' Q else K' (a.put oi.dst undef) w)
    (h2 : ∀ K' : Act → World → Prop, Shut (∀ a w, S w → HeldT P md ops Q S l n f (listed.setIfInBounds j true) a w → K' a w) → if Region.wanted oj (yielded ops a.tmps) = true then Oper.wp P oj a w K' Q else K' (a.put oj.dst undef) w)
    (h3 : ∀ K' : Act → World → Prop, Shut (∀ a w, S w → HeldT P md ops Q S l n f (listed.setIfInBounds k true) a w → K' a w) → if Region.wanted ok (yielded ops a.tmps) = true then Oper.wp P ok a w K' Q else K' (a.put ok.dst undef) w) :
    HeldT P md ops Q S l n (f + 1) listed a w := fun inv => by
  have hmi : i ∈ Region.ready md ops listed := by rw [hr]; simp
  have hmj : j ∈ Region.ready md ops listed := by rw [hr]; simp
  have hmk : k ∈ Region.ready md ops listed := by rw [hr]; simp
  refine ⟨fun h0 => (by rw [h0] at hr; cases hr), fun m hm => ?_⟩
  rw [hr] at hm
  rcases List.mem_cons.1 hm with rfl | hm
  · exact ⟨hin, wpOp_step hoi (fun K' hK => h1 K' (fun a w hS hW => hK a w ⟨hS, hW (inv.set hmi hin)⟩))⟩
  rcases List.mem_cons.1 hm with rfl | hm
  · exact ⟨hjn, wpOp_step hoj (fun K' hK => h2 K' (fun a w hS hW => hK a w ⟨hS, hW (inv.set hmj hjn)⟩))⟩
  · obtain rfl := List.mem_singleton.1 hm
    exact ⟨hkn, wpOp_step hok (fun K' hK => h3 K' (fun a w hS hW => hK a w ⟨hS, hW (inv.set hmk hkn)⟩))⟩
/-- a variable of whatever size is made, at a step of a region that draws its order -/
theorem step_var (w : World) {o : Oper} {a : Act} {K : Act → World → Prop} {E : Prop} (hgd : o.guard = none) (t : TypeId) (ho : o.op = .alloc t) (cs : List Value) (hz : ∀ w, (zeroValue t).run P w = .ok (.agg cs.toArray) w)
    (h : ∀ w', Box w' w.heap.size t cs → Below w.heap.size w w' → K (a.put o.dst (.pointer (some ⟨w.heap.size, 0, none⟩))) w') : if Region.wanted o (yielded ops a.tmps) = true then Oper.wp P o a w K Q else E := by
  have hw : Region.wanted o (yielded ops a.tmps) = true := by simp [Region.wanted, hgd]
  rw [if_pos hw]
  have e : (Instr.alloc t true (.tuple #[])).run P w = .ok (.pointer (some ⟨w.heap.size, 0, none⟩)) (w.alloc (.cells cs.toArray t)) := by
    simp [Instr.alloc, hz w, newVar, newRow, newObj, Value.cells]
    rfl
  unfold Oper.wp execOp
  simp only [ho, Sem.run_bind, e, Result.andThen_ok]
  exact h _ (Box.new w t cs) ((Below.refl _ _).alloc (Nat.le_refl _) _)
/-- all orders end at one frame, but for seven letters -/
def Meet7 {α1 α2 α3 α4 α5 α6 α7 : Type} (A : α1 → α2 → α3 → α4 → α5 → α6 → α7 → Act) (R : World → α1 → α2 → α3 → α4 → α5 → α6 → α7 → Prop) : Exit → Act → World → Prop
  | .normal, a, w => ∃ x1 x2 x3 x4 x5 x6 x7, R w x1 x2 x3 x4 x5 x6 x7 ∧ a = A x1 x2 x3 x4 x5 x6 x7
  | _, _, _ => False
theorem wp_meet7 {c : Code} {a : Act} {w : World} {α1 α2 α3 α4 α5 α6 α7 : Type} {A : α1 → α2 → α3 → α4 → α5 → α6 → α7 → Act} (R : World → α1 → α2 → α3 → α4 → α5 → α6 → α7 → Prop) (h : c.wp P (Meet7 A R) a w)
    (h2 : ∀ w' x1 x2 x3 x4 x5 x6 x7, R w' x1 x2 x3 x4 x5 x6 x7 → Q .normal (A x1 x2 x3 x4 x5 x6 x7) w') : c.wp P Q a w :=
  Code.wp_mono (fun e a' w' hm => by
    cases e <;> first | exact (hm : False).elim | (obtain ⟨x1, x2, x3, x4, x5, x6, x7, hr, rfl⟩ := hm; exact h2 _ _ _ _ _ _ _ _ hr)) h
end
end Go.Proofs.Ytiljjgohmjimdaa

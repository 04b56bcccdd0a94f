/-
  Leaves as blocks known whole: made, read, laid, compared.
-/
import Derived.Test.YtjjomfpkdbfhdaaBig
import Derived.Laws.StructEq
import Derived.Test.YtjjomfpkdbfhdaaProg
namespace Go.Proofs.Ytjjomfpkdbfhdaa
open Go.RowKit
set_option linter.unusedVariables false

namespace Leaf
structure Lf where
  gen : Int
  index : Int
  places : List Int
abbrev z10 : List Int := List.replicate 10 0
abbrev lf0 : Lf := ⟨0, 0, z10⟩
/-- a leaf has ten places -/
def In (l : Lf) : Prop := l.places.length = 10
theorem lf0_in : In lf0 := by simp [In]
end Leaf
open Leaf

/-- ints in cells -/
def is (zs : List Int) : List Value := zs.map (Value.int .i64)
theorem is_length (zs : List Int) : (is zs).length = zs.length := by simp [is]
theorem is_get {zs : List Int} {k : Nat} (h : k < zs.length) : (is zs)[k]? = some (.int .i64 (zs.getD k 0)) := by simp [is, h]
theorem is_one (zs : List Int) : ∀ u ∈ is zs, u.oneCell' = true := ints_oneCell .i64 zs
theorem is_set (zs : List Int) (j : Nat) (x : Int) : is (zs.set j x) = (is zs).set j (.int .i64 x) := by simp [is, List.map_set]
theorem is_inj {xs ys : List Int} (h : is xs = is ys) : xs = ys := by
  unfold is at h
  exact (List.map_inj_right (fun a b h => by injection h)).1 h
/-- an element of an array in hand -/
theorem run_index_is (w : World) (t e : TypeId) (n : Nat) (zs : List Int) (k : Nat) (ht : Try.prog.underlying t = some (.array n e)) (he : Try.prog.underlying e = some (.int .i64)) (hsz : ∀ w, (sizeOf e).run Try.prog w = .ok 1 w) (hl : zs.length = n) (hk : k < n) :
    (Instr.index t (.agg (is zs).toArray) (.int .i64 k)).run Try.prog w = .ok (.int .i64 (zs.getD k 0)) w := by
  have h1 : (is zs)[k]? = some (.int .i64 (zs.getD k 0)) := is_get (by omega)
  have h2 : (isAgg e).run Try.prog w = .ok false w := by simp [isAgg, run_underlying he]
  generalize zs.getD k 0 = x at h1 ⊢
  generalize is zs = cs at h1 ⊢
  simp [Instr.index, run_underlying ht, asIntOf, go_sem, hsz, part, h1, h2, hk]

/-- a leaf's cells -/
def lcs (l : Lf) : List Value := .int .i64 l.gen :: .int .i64 l.index :: is l.places
theorem lcs_length {l : Lf} (h : In l) : (lcs l).length = 12 := by unfold In at h; simp [lcs, is_length, h]
theorem lcs_one (l : Lf) : ∀ u ∈ lcs l, u.oneCell' = true := by
  intro u hu
  simp only [lcs, List.mem_cons] at hu
  rcases hu with rfl | rfl | hu
  · rfl
  · rfl
  · exact is_one _ u hu
theorem lcs_inj {a b : Lf} (h : lcs a = lcs b) : a = b := by
  unfold lcs at h
  injection h with h0 h
  injection h with h1 h
  have h5 := is_inj h
  injection h0 with _ h0
  injection h1 with _ h1
  cases a; cases b; simp_all
theorem lcs_place (l : Lf) (k : Nat) : (lcs l)[2 + k]? = (is l.places)[k]? := by
  rw [show 2 + k = k + 1 + 1 by omega]
  rfl
theorem lcs_set (l : Lf) (k : Nat) (v : Int) : (lcs l).set (2 + k) (.int .i64 v) = lcs { l with places := l.places.set k v } := by
  rw [show 2 + k = k + 1 + 1 by omega]
  simp [lcs, is_set]
section
variable {w : World} {b : Nat} {T : TypeId} {l : Lf}
theorem Box.lf (h : Box w b T (lcs l)) : w.cell? ⟨b, 0, none⟩ = some (.int .i64 l.gen) ∧ w.cell? ⟨b, 1, none⟩ = some (.int .i64 l.index) := ⟨h.cell 0, h.cell 1⟩
theorem Box.lfPlace (h : Box w b T (lcs l)) {k : Nat} (hk : k < l.places.length) : w.cell? ⟨b, 2 + k, none⟩ = some (.int .i64 (l.places.getD k 0)) := (h.cell (2 + k)).trans ((lcs_place l k).trans (is_get hk))
theorem Box.lfPlaces (h : Box w b T (lcs l)) : w.rangeAt b 2 (is l.places) := h.range 2 _ fun j v hj => by
  rw [lcs_place]
  exact hj
end
theorem size_int (w : World) : (sizeOf 3).run Try.prog w = .ok 1 w := by go_simp
section
variable {w : World} {ops : Array Oper} {rest : List Oper} {o : Oper} {a : Act} {Q : Exit → Act → World → Prop}
end
/-- two leaves are compared -/
def lfEq (a b : Lf) : Bool := a.gen == b.gen && (a.index == b.index && a.places == b.places)
theorem lfEq_iff (a b : Lf) : lfEq a b = true ↔ a = b := by
  cases a; cases b; simp [lfEq]
section
variable {w : World} {ops : Array Oper} {rest : List Oper} {o : Oper} {a : Act} {Q : Exit → Act → World → Prop}
end
end Go.Proofs.Ytjjomfpkdbfhdaa

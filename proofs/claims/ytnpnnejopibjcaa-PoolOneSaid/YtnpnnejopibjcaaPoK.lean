/-
  Package pool: Open.
-/
import Derived.Test.YtnpnnejopibjcaaPoJ
import Derived.Test.YtnpnnejopibjcaaPoI
import Derived.Test.YtnpnnejopibjcaaZoneI
namespace Go.Proofs.Ytnpnnejopibjcaa
open Go.RowKit Geom Leaf Pol Zone
set_option linter.unusedVariables false

/-- what stands in memory while Open goes over the zones: the measure, the result's variable, the points, the zones that are begun -/
structure OpSt (w w' : World) (base gp : Nat) (conv soft seq size opn : Int) (n : Nat) (Y : List Int) (v : Value) (m : Nat) (bs : List Int) : Prop where
  gp1 : One w w' conv soft seq size opn
  rs : Box w' (w.heap.size + 1) 31 (plcs none 0 0 0 0 0)
  own : w'.ownsRow base 3 1 (.slice (some ⟨gp, 0, none⟩) n n) n (is Y)
  beg : w'.ownsRow (gp + 1) 3 1 v m (is bs)
  hb : w.heap.size + 1 < base
  hg : base ≤ gp ∧ gp < w'.heap.size
section
variable {w w' w2 : World} {base gp : Nat} {conv soft seq size opn : Int} {n : Nat} {Y : List Int} {v : Value} {m : Nat} {bs : List Int}
theorem OpSt.on (h : OpSt w w' base gp conv soft seq size opn n Y v m bs) (hb : Below w'.heap.size w' w2) : OpSt w w2 base gp conv soft seq size opn n Y v m bs :=
  ⟨h.gp1.below hb, h.rs.on hb, own_below h.own hb, own_below h.beg hb, h.hb, h.hg.1, Nat.lt_of_lt_of_le h.hg.2 hb.size⟩
theorem One.grown {k : Nat} (h : One w w' conv soft seq size opn) (hg : w'.grownBy w2 (some k)) (hk : w.heap.size < k) : One w w2 conv soft seq size opn := by
  obtain ⟨⟨c0, c1, c2, c3, c4, cl⟩, hb⟩ := h
  have e0 : ∀ o, w2.cell? ⟨w.heap.size, o, none⟩ = w'.cell? ⟨w.heap.size, o, none⟩ := fun o => World.cell?_of_block (hg.block w.heap.size cl (fun e => by injection e with e; omega))
  exact ⟨⟨(e0 0).trans c0, (e0 1).trans c1, (e0 2).trans c2, (e0 3).trans c3, (e0 4).trans c4, Nat.lt_of_lt_of_le cl hg.size⟩, hb.grown hg hb.size (fun j hj => by injection hj with hj; omega)⟩
theorem OpSt.point (h : OpSt w w' base gp conv soft seq size opn n Y v m bs) (j : Nat) (x : Int) : OpSt w (w'.setCell ⟨gp, j, none⟩ (.int .i64 x)) base gp conv soft seq size opn n (Y.set j x) v m bs := by
  obtain ⟨o1, hg⟩ := h.own.stored j (.int .i64 x)
  rw [← is_set] at o1
  have h1 := h.hb
  have h2 := h.hg
  exact ⟨h.gp1.grown hg (by omega), h.rs.grown hg (by omega), o1, own_store h.beg hg (Nat.lt_succ_self _), h.hb, h2.1, Nat.lt_of_lt_of_le h2.2 hg.size⟩
theorem OpSt.more (h : OpSt w w' base gp conv soft seq size opn n Y v m bs) {v2 : Value} {m2 : Nat} {bs2 : List Int} (ho : w2.ownsRow (gp + 1) 3 1 v2 m2 (is bs2)) (hg : w'.grownBy w2 v.ownBlock) : OpSt w w2 base gp conv soft seq size opn n Y v2 m2 bs2 := by
  have h1 := h.hb
  have h2 := h.hg
  have h3 := h.rs.lt
  have hk : ∀ k, v.ownBlock = some k → gp + 1 ≤ k := fun k hk => (h.beg.lt k hk).1
  have hn : ∀ k, k < gp + 1 → k < w'.heap.size → w2.heap[k]? = w'.heap[k]? := fun k hk' hl => hg.block k hl (fun e => by have := hk k e.symm; omega)
  have hbl : Below (gp + 1) w' w2 := (Below.refl _ _).grown hg (by omega) hk
  obtain ⟨⟨c0, c1, c2, c3, c4, cl⟩, hb⟩ := h.gp1
  refine ⟨⟨⟨?_, ?_, ?_, ?_, ?_, Nat.lt_of_lt_of_le cl hg.size⟩, hb.trans (hbl.mono (by omega))⟩, h.rs.same (hn _ (by omega) h3), own_same h.own (fun g e => ?_), ho, h.hb, h2.1, Nat.lt_of_lt_of_le h2.2 hg.size⟩
  · exact (World.cell?_of_block (a := ⟨w.heap.size, 0, none⟩) (hn _ (show w.heap.size < gp + 1 by omega) cl)).trans c0
  · exact (World.cell?_of_block (a := ⟨w.heap.size, 1, none⟩) (hn _ (show w.heap.size < gp + 1 by omega) cl)).trans c1
  · exact (World.cell?_of_block (a := ⟨w.heap.size, 2, none⟩) (hn _ (show w.heap.size < gp + 1 by omega) cl)).trans c2
  · exact (World.cell?_of_block (a := ⟨w.heap.size, 3, none⟩) (hn _ (show w.heap.size < gp + 1 by omega) cl)).trans c3
  · exact (World.cell?_of_block (a := ⟨w.heap.size, 4, none⟩) (hn _ (show w.heap.size < gp + 1 by omega) cl)).trans c4
  · injection e with e
    subst e
    exact hn _ (Nat.lt_succ_self _) h2.2
end
end Go.Proofs.Ytnpnnejopibjcaa

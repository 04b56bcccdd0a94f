/-
  Package zone: zones with another one in a place; are two lists of zones one; is there such a sector.
-/
import Derived.Test.YtnpnnejopibjcaaZoneF
import Derived.Deep.MidRow
namespace Go.Proofs.Ytnpnnejopibjcaa
open Go.RowKit Geom Zone
set_option linter.unusedVariables false

theorem own_base {w : World} {base base' : Nat} {e : TypeId} {size n : Nat} {v : Value} {xs : List Value} (h : w.ownsRow base e size v n xs) (hb : base' ≤ base) : w.ownsRow base' e size v n xs := by
  refine ⟨h.1, ?_⟩
  rcases h.2 with h2 | ⟨g, cap, cur, h1, h2, h3⟩
  · exact .inl h2
  · exact .inr ⟨g, cap, cur, h1, Nat.le_trans hb h2, h3⟩
set_option maxRecDepth 100000 in
/-- a zone is stored in a row of the call's own -/
theorem wpList_store_zone {P : Program} (w : World) {ops : Array Oper} {rest : List Oper} {o : Oper} {a : Act} {Q : Exit → Act → World → Prop} (hgd : o.guard = none) (ty : TypeId) (x y : Operand) (ho : o.op = .store ty x y)
    (base g n c k : Nat) (e : TypeId) (L : List Z) (z : Z) (hown : w.ownsRow base e 2 (.slice (some ⟨g, 0, none⟩) n c) n (zc L)) (hk : k < n)
    (hx : a.eval x = .pointer (some ⟨g, k * 2, none⟩)) (hy : a.eval y = .agg #[.int .i64 z.1, .int .i64 z.2]) (hi : (P.info? ty).map (·.size) = some 2)
    (h : ∀ w', w'.ownsRow base e 2 (.slice (some ⟨g, 0, none⟩) n c) n (zc (L.set k z)) → w.grownBy w' (some g) → wpList P ops Q rest (a.put o.dst undef) w') : wpList P ops Q (o :: rest) a w := by
  have hl : (zc L).length = n * 2 := hown.1
  refine wpList_store_mid hgd ty x y ho g (k * 2) #[.int .i64 z.1, .int .i64 z.2] hx hy ?_ hi (by simp [Value.oneCell']) ?_
  · intro j hj
    have hj2 : j < 2 := hj
    refine ⟨?_, hown.frozenAt _⟩
    rw [hown.cellAt (k * 2 + j) (by omega)]
    simp only [List.getElem?_eq_getElem (show k * 2 + j < (zc L).length by omega)]
    rfl
  · obtain ⟨h1, g1⟩ := hown.stored (k * 2) (.int .i64 z.1)
    obtain ⟨h2, g2⟩ := h1.stored (k * 2 + 1) (.int .i64 z.2)
    rw [← zc_set] at h2
    exact h _ h2 (g1.trans g2)

end Go.Proofs.Ytnpnnejopibjcaa

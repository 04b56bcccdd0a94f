/-
  DevL
-/
import Derived.Test.YtgnpohkippegpaaGreatMg10
import Derived.Deep.RegionWith
/-
  Package dev: Crash.
-/
namespace Go.Proofs.YtgnpohkippegpaaGreat
open Go.RowKit Geom Zone Dev
set_option linter.unusedVariables false

namespace Dev
/-- a page's bytes, of what stands at a place -/
def unpg : Option Value → List Int
  | some (.agg cs) => cs.toList.map fun v => match v with | .int _ x => x | _ => 0
  | _ => z64
theorem unpg_some (p : List Int) : unpg (some (pgv p)) = p := by
  unfold unpg pgv bs
  simp only [List.map_map]
  exact (List.map_congr_left (fun a _ => rfl)).trans (List.map_id p)
theorem unpg_get {f : Option Value} (h : ∀ v, f = some v → ∃ p : List Int, p.length = 64 ∧ v = pgv p) : f.getD (pgv z64) = pgv (unpg f) ∧ (unpg f).length = 64 := by
  cases f with
  | none => exact ⟨rfl, rfl⟩
  | some v =>
    obtain ⟨p, hp, rfl⟩ := h v rfl
    rw [unpg_some]
    exact ⟨rfl, hp⟩
theorem stl_pages {St : Type} (step : St → Wr → Int × St) : ∀ (l : List Wr) (s : St × List Wr × (Pl → Option Value)), WOk l → (∀ a v, s.2.2 a = some v → ∃ p : List Int, p.length = 64 ∧ v = pgv p) → ∀ a v, (stl step l s).2.2 a = some v → ∃ p : List Int, p.length = 64 ∧ v = pgv p
  | [], (σ, k, f), _, h => h
  | c :: r, (σ, k, f), hw, h => stl_pages step r _ (fun x hx => hw x (by simp [hx])) fun a v hv => by
    simp only at hv
    split at hv
    · unfold updM at hv
      split at hv
      · injection hv with hv
        exact ⟨c.2.2, hw c (by simp), hv.symm⟩
      · exact h a v hv
    · exact h a v hv
theorem crs_last (conv : Int) (keep : List Int) (X : List Wr) : ∀ (l : List Wr) (s : Cst × List Wr × (Pl → Option Value)), (∀ c ∈ l, c ∈ X) → (s.1.left = false → s.1.last ∈ X) → (stl (crs conv keep) l s).1.left = false → (stl (crs conv keep) l s).1.last ∈ X
  | [], (σ, k, f), _, h => h
  | c :: r, (σ, k, f), hw, h => crs_last conv keep X r _ (fun x hx => hw x (by simp [hx])) fun hl => by
    simp only at hl ⊢
    unfold crs
    split
    · exact hw c (by simp)
    · exact hw c (by simp)
/-- a crash, plainly -/
def crashD (D : Dv) (keep : List Int) (soft0 tear : Int) : Dv :=
  let r := crashS D keep soft0
  let t := if r.1.left = false ∧ 0 < tear then tearL D.conv D.soft D.seq D.size D.opn (r.1.L.map pow) r.2.2 r.1.last (min tear 64).toNat (unpg (r.2.2 r.1.last.pl)) else (r.1.L.map pow, r.2.2)
  { D with L := t.1, last := t.2, use := D.use + D.cache.length + 1, cache := r.2.1, down := false, armed := 0 }
theorem crashD_eq (D : Dv) (keep : List Int) (soft0 tear : Int) (s : Cst) (ck : List Wr) (lk : Pl → Option Value) (h : crashS D keep soft0 = (s, ck, lk)) : crashD D keep soft0 tear =
    { D with L := (if s.left = false ∧ 0 < tear then tearL D.conv D.soft D.seq D.size D.opn (s.L.map pow) lk s.last (min tear 64).toNat (unpg (lk s.last.pl)) else (s.L.map pow, lk)).1,
             last := (if s.left = false ∧ 0 < tear then tearL D.conv D.soft D.seq D.size D.opn (s.L.map pow) lk s.last (min tear 64).toNat (unpg (lk s.last.pl)) else (s.L.map pow, lk)).2,
             use := D.use + D.cache.length + 1, cache := ck, down := false, armed := 0 } := by
  unfold crashD
  rw [h]
end Dev

theorem w64 {a : Int} (h0 : -9223372036854775808 ≤ a) (h1 : a ≤ 9223372036854775807) : W64 a := by
  simp [W64, Lit.wf, IntKind.min, IntKind.max, IntKind.signed, IntKind.bits]
  omega
theorem DvOk.place64 {D : Dv} (h : DvOk D) {c : Wr} (hc : c ∈ D.cache) : (W64 c.1 ∧ W64 c.2.1) ∧ c.2.1 ≤ 65536 := by
  obtain ⟨p0, p1, p2, p3⟩ := h.place c hc
  have hn := h.nl
  obtain ⟨o1, o2, o3, o4, o5, o6, o7, o8⟩ := h.ok
  have : c.2.1 ≤ 65536 := by
    unfold sectors at p3
    split at p3
    · omega
    · split at p3 <;> omega
  exact ⟨⟨w64 (by omega) (by omega), w64 (by omega) (by omega)⟩, this⟩

section
variable {w : World} {d : Nat}
end
end Go.Proofs.YtgnpohkippegpaaGreat

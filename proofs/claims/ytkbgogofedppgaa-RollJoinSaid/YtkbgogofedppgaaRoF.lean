/-
  Package roll: Users; the document's Few and Same.
-/
import Derived.Test.YtkbgogofedppgaaRoC
import Derived.BigQuiet
namespace Go.Proofs.Ytkbgogofedppgaa
open Go.RowKit Word Rec Scan Roll Leaf
set_option linter.unusedVariables false

theorem users_take {l : List Gp} {k : Nat} {g : Gp} (h : l[k]? = some g) : users (l.take (k + 1)) = users (l.take k) + if g.own = true then 0 else 1 := by
  obtain ⟨hk, rfl⟩ := List.getElem?_eq_some_iff.1 h
  rw [List.take_succ_eq_append_getElem hk, users_snoc]
theorem users_take_le (l : List Gp) (k : Nat) : users (l.take k) ≤ k := Nat.le_trans (users_le _) (by rw [List.length_take]; omega)
theorem gmap_at {L : List Gv} {k : Nat} {x : Gv} (h : L[k]? = some x) : (L.map Gv.g)[k]? = some x.g := by rw [List.getElem?_map, h]; rfl
set_option maxRecDepth 100000 in
set_option maxHeartbeats 4000000 in
theorem users_any (G : Option Addr) (gn gcap : Nat) (L : List Gv) (w : World) (hgl : L.length = gn) (hgm : gn ≤ maxLen) (hg : Rd w w.heap.size G (gvs L)) :
    Calls Try.prog 12 #[.slice G gn gcap] w fun e w' => e = .returned (.int .i64 (users (L.map Gv.g))) ∧ Below w.heap.size w w' := by
  have HG := Lib.hid (And.intro hgl hg)
  unfold maxLen at hgm
  clear hgl hg
  go_enter Try.func12, Try.ntmps12
  go_wp2
  go_loopw [3, 8] (fun n i wr => ∃ k u : Nat, k ≤ gn ∧ i = .int .i64 k ∧ n = .int .i64 u ∧ u ≤ k ∧ u = users ((L.map Gv.g).take k) ∧ Below w.heap.size w wr) (fun _ i _ => gn - (intOf i).toNat)
  case atStart => exact ⟨0, 0, by omega, rfl, rfl, Nat.le_refl _, rfl, Below.refl _ _⟩
  case round =>
    obtain ⟨k, u, hk, rfl, rfl, huk, hu, hbl⟩ := hrel
    have HU := Lib.hid (And.intro hu hbl)
    clear hu hbl
    by_cases hlt : k < gn
    · have hkl : k < L.length := by rw [HG.out.1]; exact hlt
      obtain ⟨x, hx⟩ : ∃ x, L[k]? = some x := ⟨_, List.getElem?_eq_getElem hkl⟩
      obtain ⟨ad, rfl, hadb, c0, c1, c2⟩ := gv_at (HG.out.2.below HU.out.2) hx
      have HD := Lib.hid (users_take (gmap_at hx))
      obtain ⟨⟨own, sq, ch⟩, xA, xc⟩ := x
      simp only [Gv.v] at c0 c1 c2
      have hki : (k : Int) < (gn : Int) := by omega
      have hui : (u : Int) < (gn : Int) := by omega
      clear hx hkl
      cases own
      · have HE := Lib.hid (show u + 1 = users ((L.map Gv.g).take (k + 1)) by rw [HD.out, ← HU.out.1]; rfl)
        have HB := Lib.hid ((HU.out.2.alloc HU.out.2.size) (.cells #[.bool false, .int .i64 sq, .slice xA ch.length xc] 28))
        go_wp2
        go_roundw
        case rel => exact ⟨k + 1, u + 1, by omega, by go_num, by go_num, by omega, HE.out, HB.out⟩
        case measure => first | (simp [intOf]; done) | (simp [intOf]; omega)
      · have HE := Lib.hid (show u = users ((L.map Gv.g).take (k + 1)) by rw [HD.out, ← HU.out.1]; rfl)
        have HB := Lib.hid ((HU.out.2.alloc HU.out.2.size) (.cells #[.bool true, .int .i64 sq, .slice xA ch.length xc] 28))
        go_wp2
        go_roundw
        case rel => exact ⟨k + 1, u, by omega, by go_num, rfl, by omega, HE.out, HB.out⟩
        case measure => first | (simp [intOf]; done) | (simp [intOf]; omega)
    · obtain rfl : gn = k := by omega
      have HE := Lib.hid (show u = users (L.map Gv.g) by rw [HU.out.1, List.take_of_length_le (by rw [List.length_map, HG.out.1]; exact Nat.le_refl _)])
      go_wp2
      go_ret
      exact ⟨ret_nat HE.out.symm, HU.out.2⟩
/-- a truth is answered, whichever -/
def BoolE (e : Ending) : Prop := ∃ b : Bool, e = .returned (.bool b)
theorem BoolE.of (b : Bool) : BoolE (.returned (.bool b)) := ⟨b, rfl⟩
set_option maxRecDepth 100000 in
set_option maxHeartbeats 4000000 in
theorem few_any (G : Option Addr) (gn gcap : Nat) (L : List Gv) (w : World) (hgl : L.length = gn) (hgm : gn ≤ maxLen) (hg : Rd w w.heap.size G (gvs L)) :
    Calls Try.prog 8 #[.slice G gn gcap] w fun e w' => BoolE e ∧ w = w' := by
  have HG := Lib.hid (And.intro hgl hg)
  unfold maxLen at hgm
  clear hgl hg
  go_enter Try.func8, Try.ntmps8
  go_wp2
  go_loop [3, 4] (fun n i => ∃ (k : Nat) (z : Int), k ≤ gn ∧ i = .int .i64 k ∧ n = .int .i64 z) (fun _ i => gn - (intOf i).toNat)
  case atStart => exact ⟨0, gn, by omega, rfl, rfl⟩
  case round =>
    obtain ⟨k, z, hk, rfl, rfl⟩ := hrel
    by_cases hlt : k < gn
    · have hki : (k : Int) < (gn : Int) := by omega
      by_cases h2 : z ≤ 200
      · have hkl : k < L.length := by rw [HG.out.1]; exact hlt
        obtain ⟨x, hx⟩ : ∃ x, L[k]? = some x := ⟨_, List.getElem?_eq_getElem hkl⟩
        obtain ⟨ad, rfl, hadb, c0, c1, c2⟩ := gv_at HG.out.2 hx
        obtain ⟨⟨own, sq, ch⟩, xA, xc⟩ := x
        simp only [Gv.v] at c0 c1 c2
        generalize ch.length = cn at *
        generalize hwz : IntKind.i64.wrap (z + cn) = zz
        clear hx hkl
        go_wp2
        go_round
        case rel => exact ⟨k + 1, _, by omega, by go_num, rfl⟩
        case measure => first | (simp [intOf]; done) | (simp [intOf]; omega)
      · go_wp2
        go_ret
        exact ⟨BoolE.of _, rfl⟩
    · obtain rfl : gn = k := by omega
      go_wp2
      go_ret
      exact ⟨BoolE.of _, rfl⟩
end Go.Proofs.Ytkbgogofedppgaa

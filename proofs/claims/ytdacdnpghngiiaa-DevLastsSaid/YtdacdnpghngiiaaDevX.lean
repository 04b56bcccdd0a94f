/-
  Package dev: copies of a list of written sectors and of maps.
-/
import Derived.Test.YtdacdnpghngiiaaDevW
import Derived.Test.YtdacdnpghngiiaaZoneF
import Derived.Ground.SlmcProg
import Derived.Shelf.Lay
import Derived.Shelf.SlMaps.Clone
namespace Go.Proofs
open Go.Shelf
shelf_lay_g SlLaysW.n5 Slmc 5 at Try 36 as Try.mcPage
shelf_lay_g SlLaysW.n5 Slmc 5 at Try 38 as Try.mcInt
end Go.Proofs
namespace Go.Proofs.Ytdacdnpghngiiaa
open Go.RowKit Geom Zone Dev
set_option linter.unusedVariables false

theorem mcpage_any (b n : Nat) (f : Int × Int → Option Value) (w : World) (h : MapIs w b n f) :
    Calls Try.prog 36 #[.map (some b)] w fun e w' => e = .returned (.map (some w.heap.size)) ∧ MapIs w' w.heap.size n f ∧ Below w.heap.size w w' := by
  obtain ⟨D, h1, h2⟩ := h
  have hcon := AnyW.maps_Clone_owns Try.mcPage _ _ b n D w h1
  change Calls Try.prog 36 _ _ _ at hcon
  exact hcon.mono fun e w' h => ⟨h.1, ⟨D, h.2.1, h2⟩, h.2.2.2⟩

theorem mcint_any (b n : Nat) (f : Int × Int → Option Value) (w : World) (h : MapIs w b n f) :
    Calls Try.prog 38 #[.map (some b)] w fun e w' => e = .returned (.map (some w.heap.size)) ∧ MapIs w' w.heap.size n f ∧ Below w.heap.size w w' := by
  obtain ⟨D, h1, h2⟩ := h
  have hcon := AnyW.maps_Clone_owns Try.mcInt _ _ b n D w h1
  change Calls Try.prog 38 _ _ _ at hcon
  exact hcon.mono fun e w' h => ⟨h.1, ⟨D, h.2.1, h2⟩, h.2.2.2⟩

theorem isnil_wr (w : World) (a : Option Addr) (n c : Nat) : (binOp .eql 68 (.slice a n c) (.slice none 0 0)).run Try.prog w = .ok (.bool a.isNone) w := Lib.run_eql_slice_nil w _ _ a n c 0 0 Try.underlying68

theorem Rd.own_any {w : World} {base : Nat} {e : TypeId} {size n : Nat} {v : Value} {xs : List Value} (h : w.ownsRow base e size v n xs) : ∀ A m c, v = .slice A m c → Rd w w.heap.size A xs := by
  intro A m c e'
  subst e'
  rcases h.2 with ⟨e1, _⟩ | ⟨g, cap, cur, e1, _⟩
  · injection e1 with e1 e2 e3
    subst e1 e2 e3
    rename_i h0
    exact Rd.own (n := 0) (c := 0) (base := base) (e := e) (size := size) (h0 ▸ h)
  · injection e1 with e1 e2 e3
    subst e1 e2 e3
    exact Rd.own h
set_option maxRecDepth 100000 in
set_option maxHeartbeats 4000000 in
theorem wclone_any (v : Value) (l : List Wr) (w : World) (hl : l.length ≤ 100000) (hok : WOk l) (hr : w.ownsRow 0 75 66 v l.length (wcs l)) :
    Calls Try.prog 37 #[v] w fun e w' => ∃ v', e = .returned v' ∧ w'.ownsRow w.heap.size 75 66 v' l.length (wcs l) ∧ Below w.heap.size w w' := by
  have qN := isnil_wr
  have HL := Lib.hid (wcs_length hok)
  have H1 := Lib.hid hr.1
  have hrd := Rd.own_any hr
  rcases hr.2 with ⟨rfl, h0⟩ | ⟨g, cap, cur, rfl, _⟩
  · have h0 := Lib.hid h0
    clear hr hrd
    go_enter Try.func37, Try.ntmps37
    go_wp2_with fail
    go_ret
    exact ⟨.slice none 0 0, rfl, ⟨H1.out, .inl ⟨rfl, h0.out⟩⟩, Below.refl _ _⟩
  · have hrd := hrd _ _ _ rfl
    clear hr
    go_enter Try.func37, Try.ntmps37
    go_wp2_with (at_builtin; refine wpList_append_copy _ rfl _ _ _ rfl 75 _ 66 80 elemW rfl _ l.length cap rfl (wcs l) HL.out hrd (fun _ h => wcs_cells h) (by simp only [maxLen]; omega) (by omega) ?_; intro A2 c2 w2 hown hb2)
    go_ret
    exact ⟨_, rfl, hown, hb2⟩
end Go.Proofs.Ytdacdnpghngiiaa

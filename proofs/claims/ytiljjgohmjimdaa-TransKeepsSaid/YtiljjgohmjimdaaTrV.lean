/-
  The calls of package trans, way by way, as the laws use them.
-/
import Derived.Test.YtiljjgohmjimdaaTrU
namespace Go.Proofs.Ytiljjgohmjimdaa
open Go.RowKit Word Tran
set_option linter.unusedVariables false

theorem map_one {l : List Tv} {x : Tn} (h : l.map Tv.t = [x]) : ∃ A c, l = [⟨x, A, c⟩] := by
  match l, h with
  | [⟨t, A, c⟩], h =>
    injection h with h _
    have h : t = x := h
    exact ⟨A, c, by rw [h]⟩
theorem map_none {l : List Tv} (h : l.map Tv.t = []) : l = [] := List.map_eq_nil_iff.1 h
theorem tids_map {l m : List Tv} (h : l.map Tv.t = m.map Tv.t) : tids l = tids m := by unfold tids; rw [h]
theorem get_yes {x : Lv} {id : Int} {w : World} {t : Tn} (hi : LIn w x) (hs : Rise (tids x.l)) (hg : gett id (x.l.map Tv.t) = some t) :
    Calls Try.prog 10 #[lval x, .int .i64 id] w fun e w' => ∃ A c, e = .returned (.tuple #[tval ⟨t, A, c⟩, .int .i64 0]) ∧ w'.ownsRow w.heap.size 49 34 (.slice A t.ws.length c) t.ws.length (tws t.ws) ∧ TIn t ∧ Below w.heap.size w w' :=
  (get_any x id w hi hs).mono fun e w' h => by
    obtain ⟨⟨t2, A, c⟩, rfl, h2, h3, h4, h5⟩ := h
    have h2 : t2 = t := by rw [hg] at h2; exact h2
    subst h2
    exact ⟨A, c, by rw [hg]; rfl, h3, h4, h5⟩
theorem get_no {x : Lv} {id : Int} {w : World} (hi : LIn w x) (hs : Rise (tids x.l)) (hg : gett id (x.l.map Tv.t) = none) :
    Calls Try.prog 10 #[lval x, .int .i64 id] w fun e w' => ∃ A c, e = .returned (.tuple #[tval ⟨tn0, A, c⟩, .int .i64 9]) ∧ Below w.heap.size w w' :=
  (get_any x id w hi hs).mono fun e w' h => by
    obtain ⟨⟨t2, A, c⟩, rfl, h2, h3, h4, h5⟩ := h
    have h2 : t2 = tn0 := by rw [hg] at h2; exact h2
    subst h2
    exact ⟨A, c, by rw [hg]; rfl, h5⟩
theorem drop_is {x : Lv} {id : Int} {w : World} {k : Int} (hi : LIn w x) (hs : Rise (tids x.l)) (hk : (if (gett id (x.l.map Tv.t)).isSome then (0 : Int) else 9) = k) :
    Calls Try.prog 12 #[lval x, .int .i64 id] w fun e w' => ∃ z : Lv, e = .returned (.tuple #[lval z, .int .i64 k]) ∧ z.nx = x.nx ∧ z.l.map Tv.t = dropT id (x.l.map Tv.t) ∧ LOwn w' w.heap.size z ∧ Below w.heap.size w w' :=
  (drop_any x id w hi hs).mono fun e w' h => by
    obtain ⟨z, rfl, h2, h3, h4, h5⟩ := h
    exact ⟨z, by rw [hk], h2, h3, h4, h5⟩
theorem begin_yes {x : Lv} {now : Int} {w : World} (hi : LIn w x) (hnx : 0 ≤ x.nx ∧ x.nx ≤ 1099511627776) (hl : x.l.length < 16) :
    Calls Try.prog 8 #[lval x, .int .i64 now] w fun e w' => ∃ y : Lv, e = .returned (.tuple #[lval y, .int .i64 x.nx, .int .i64 0]) ∧ y.nx = x.nx + 1 ∧ y.l.map Tv.t = x.l.map Tv.t ++ [⟨x.nx, now, []⟩] ∧ LOwn w' w.heap.size y ∧ Below w.heap.size w w' :=
  (begin_any x now w hi hnx).mono fun e w' h => by
    obtain ⟨y, h1, h2, h3⟩ := h
    rcases h3 with ⟨h16, _⟩ | ⟨_, rfl, h4, h5⟩
    · omega
    · exact ⟨y, rfl, h4, h5, h1, h2⟩
theorem begin_no {x : Lv} {now : Int} {w : World} (hi : LIn w x) (hnx : 0 ≤ x.nx ∧ x.nx ≤ 1099511627776) (hl : 16 ≤ x.l.length) :
    Calls Try.prog 8 #[lval x, .int .i64 now] w fun e w' => ∃ y : Lv, e = .returned (.tuple #[lval y, .int .i64 0, .int .i64 13]) ∧ y.nx = x.nx ∧ y.l.map Tv.t = x.l.map Tv.t ∧ LOwn w' w.heap.size y ∧ Below w.heap.size w w' :=
  (begin_any x now w hi hnx).mono fun e w' h => by
    obtain ⟨y, h1, h2, h3⟩ := h
    rcases h3 with ⟨_, rfl, h4, h5⟩ | ⟨h16, _⟩
    · exact ⟨y, rfl, h4, h5, h1, h2⟩
    · omega
/-- many variables side by side -/
def TBx (w W : World) (l : List (Nat × TypeId × List Value)) : Prop := (∀ x ∈ l, Box W x.1 x.2.1 x.2.2) ∧ Below w.heap.size w W
section
variable {w W W' W2 : World} {l : List (Nat × TypeId × List Value)}
theorem TBx.nil (w : World) : TBx w w [] := ⟨fun x hx => by simp at hx, Below.refl _ _⟩
theorem TBx.on (h : TBx w W l) (hb : Below W.heap.size W W') : TBx w W' l := ⟨fun x hx => (h.1 x hx).on hb, bthen h.2 hb⟩
theorem TBx.drew (h : TBx w W l) : TBx w W.drew l := ⟨h.1, h.2.drew⟩
theorem TBx.add (h : TBx w W l) {T : TypeId} {cs : List Value} (hB : Below W.heap.size W W') (x : Box W' W.heap.size T cs) : TBx w W' ((W.heap.size, T, cs) :: l) := by
  refine ⟨fun y hy => ?_, bthen h.2 hB⟩
  rcases List.mem_cons.1 hy with rfl | hy
  · exact x
  · exact (h.1 y hy).on hB
theorem TBx.made (h : TBx w W l) {T : TypeId} {cs : List Value} (hB : Below W.heap.size W W') (hg : W'.grownBy W2 (some W.heap.size)) (x : Box W2 W.heap.size T cs) : TBx w W2 ((W.heap.size, T, cs) :: l) := h.add (below_stored hB hg hB.size (Nat.le_refl _)) x
theorem TBx.get (h : TBx w W l) {b : Nat} {T : TypeId} {cs : List Value} (hm : (b, T, cs) ∈ l) : Box W b T cs := h.1 _ hm
theorem TBx.head {b : Nat} {T : TypeId} {cs : List Value} (h : TBx w W ((b, T, cs) :: l)) : Box W b T cs := h.get (.head _)
theorem TBx.tail {a : Nat × TypeId × List Value} (h : TBx w W (a :: l)) : TBx w W l := ⟨fun x hx => h.1 x (.tail _ hx), h.2⟩
end
end Go.Proofs.Ytiljjgohmjimdaa

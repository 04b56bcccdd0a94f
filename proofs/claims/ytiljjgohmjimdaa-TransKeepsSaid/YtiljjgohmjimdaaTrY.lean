/-
  What the laws over ledgers share: the mathematics of handles, and small facts of memory.
-/
import Derived.Test.YtiljjgohmjimdaaTrX
namespace Go.Proofs.Ytiljjgohmjimdaa
open Go.RowKit Word Tran
set_option linter.unusedVariables false

theorem find_mem : ∀ {T : List Tn} {x : Tn}, Rise (ids T) → x ∈ T → (T.find? fun y => y.id == x.id) = some x
  | [], x, _, hx => by cases hx
  | a :: T, x, h, hx => by
    obtain ⟨h1, h2⟩ := rise_cons.1 (show Rise (a.id :: ids T) from h)
    rw [List.find?_cons]
    rcases List.mem_cons.1 hx with rfl | hx
    · simp
    · have := h1 x.id (List.mem_map.2 ⟨x, hx, rfl⟩)
      have e : (a.id == x.id) = false := by simp; omega
      rw [e]
      exact find_mem h2 hx
theorem gett_mem {T : List Tn} {x : Tn} (h : Rise (ids T)) (hx : x ∈ T) : gett x.id T = some x := by
  rw [gett_find h]
  exact find_mem h hx
theorem gett_is {T : List Tn} {t : Tn} {id : Int} (h : Rise (ids T)) (hg : gett id T = some t) : t.id = id ∧ t ∈ T := by
  rw [gett_find h] at hg
  refine ⟨?_, List.mem_of_find?_eq_some hg⟩
  have := List.find?_some hg
  simpa using this
theorem ids_set {T : List Tn} (t : Tn) (h : Rise (ids T)) : ids (setT t T) = ids T := by
  rw [setT_map t h]
  show List.map Tn.id (List.map _ T) = List.map Tn.id T
  rw [List.map_map]
  refine List.map_congr_left fun x _ => ?_
  show (if x.id = t.id then t else x).id = x.id
  split
  · rename_i e; exact e.symm
  · rfl
theorem rise_set {T : List Tn} (t : Tn) (h : Rise (ids T)) : Rise (ids (setT t T)) := by rw [ids_set t h]; exact h
theorem len_set {T : List Tn} (t : Tn) (h : Rise (ids T)) : (setT t T).length = T.length := by rw [setT_map t h, List.length_map]
theorem mem_set {T : List Tn} {t x : Tn} (h : Rise (ids T)) (hx : x ∈ setT t T) : x = t ∨ x ∈ T := by
  rw [setT_map t h] at hx
  obtain ⟨y, hy, rfl⟩ := List.mem_map.1 hx
  show (if y.id = t.id then t else y) = t ∨ _
  split
  · exact .inl rfl
  · exact .inr hy
theorem rise_drop {T : List Tn} (id : Int) (h : Rise (ids T)) : Rise (ids (dropT id T)) := by
  rw [dropT_filter id h]
  exact List.Pairwise.sublist (List.filter_sublist.map _) h
theorem len_drop {T : List Tn} (id : Int) (h : Rise (ids T)) : (dropT id T).length ≤ T.length := by
  rw [dropT_filter id h]
  exact List.length_filter_le _ _
theorem mem_drop {T : List Tn} {x : Tn} {id : Int} (h : Rise (ids T)) (hx : x ∈ dropT id T) : x ∈ T := by
  rw [dropT_filter id h] at hx
  exact (List.mem_filter.1 hx).1
theorem gett_set_other {T : List Tn} {t x : Tn} (h : Rise (ids T)) (hx : x ∈ T) (hne : x.id ≠ t.id) : gett x.id (setT t T) = some x :=
  gett_mem (rise_set t h) (by rw [setT_map t h]; exact List.mem_map.2 ⟨x, hx, by show (if x.id = t.id then t else x) = x; rw [if_neg hne]⟩)
theorem gett_drop_other {T : List Tn} {x : Tn} {id : Int} (h : Rise (ids T)) (hx : x ∈ T) (hne : x.id ≠ id) : gett x.id (dropT id T) = some x :=
  gett_mem (rise_drop id h) (by rw [dropT_filter id h]; exact List.mem_filter.2 ⟨hx, by simpa using hne⟩)
theorem gett_drop_same {T : List Tn} {id : Int} (h : Rise (ids T)) : gett id (dropT id T) = none := by
  rw [gett_find (rise_drop id h), List.find?_eq_none, dropT_filter id h]
  intro x hx
  simpa using (List.mem_filter.1 hx).2
theorem LRaw.on {w w' : World} {x : Lv} (h : LRaw w x) (hb : Below w.heap.size w w') : LRaw w' x := ⟨h.few, h.rd.on hb, h.each⟩
theorem put_tin2 {w : Wt} {t : Tn} {id bg : Int} (h : t.ws.length ≤ 60) (hi : ∀ o ∈ t.ws, WIn o) (hw : WIn w) : TIn ⟨id, bg, putL (clean w) t.ws⟩ := by
  rw [put_ins]
  refine ⟨Nat.le_trans (ins_length _ _) (by omega), fun o ho => ?_⟩
  rcases ins_mem ho with rfl | ho
  · exact clean_in hw
  · exact hi o ho
theorem LOwn.inS {w : World} {base : Nat} {s : Lv} {T : List Tn} (h : LOwn w base s) (e : s.l.map Tv.t = T) (hl : T.length ≤ 10000) (hi : ∀ t ∈ T, TIn t) : LIn w s :=
  h.inn (by rw [← e, List.length_map] at hl; exact hl) (fun y hy => hi y.t (by rw [← e]; exact List.mem_map.2 ⟨y, hy, rfl⟩))
theorem tids_eq {l : List Tv} {T : List Tn} (e : l.map Tv.t = T) (h : Rise (ids T)) : Rise (tids l) := by unfold tids; rw [e]; exact h
theorem TRd.at {w : World} {B : Nat} {A : Option Addr} {l : List Tv} {x : Tv} (h : TRd w B A l) (hx : x ∈ l) : Rd w B x.A (tws x.t.ws) := h.2 x hx
theorem TBx.cellsT {w W : World} {l : List (Nat × TypeId × List Value)} {b : Nat} {T : TypeId} {x : Tv} (h : TBx w W l) (hm : (b, T, tnc x) ∈ l) : W.cell? ⟨b, 0, none⟩ = some (.int .i64 x.t.id) ∧ W.cell? ⟨b, 1, none⟩ = some (.int .i64 x.t.bg) ∧ W.cell? ⟨b, 2, none⟩ = some (.slice x.A x.t.ws.length x.cap) := tn_box (h.get hm)
theorem TBx.cellsL {w W : World} {l : List (Nat × TypeId × List Value)} {b : Nat} {T : TypeId} {x : Lv} (h : TBx w W l) (hm : (b, T, lgc x) ∈ l) : W.cell? ⟨b, 0, none⟩ = some (.int .i64 x.nx) ∧ W.cell? ⟨b, 1, none⟩ = some (.slice x.A x.l.length x.cap) := lg_box (h.get hm)
end Go.Proofs.Ytiljjgohmjimdaa

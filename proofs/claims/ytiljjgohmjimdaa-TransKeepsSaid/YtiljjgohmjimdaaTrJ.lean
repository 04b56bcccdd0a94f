/-
  Package trans: Get, Set.
-/
import Derived.Test.YtiljjgohmjimdaaTrI
namespace Go.Proofs.Ytiljjgohmjimdaa
open Go.RowKit Word Tran
set_option linter.unusedVariables false

theorem hit_at {l : List Tv} {id : Int} (h : hit id (tids l) = true) : ∃ y, l[pos id (tids l)]? = some y ∧ gett id (l.map Tv.t) = some y.t := by
  have hlt := hit_lt h
  rw [tids_length] at hlt
  refine ⟨_, List.getElem?_eq_getElem hlt, ?_⟩
  unfold gett
  have h2 : hit id (ids (l.map Tv.t)) = true := h
  rw [if_pos h2]
  show (l.map Tv.t)[pos id (tids l)]? = _
  rw [List.getElem?_map, List.getElem?_eq_getElem hlt]
  rfl
theorem hit_not {l : List Tv} {id : Int} (h : hit id (tids l) = false) : gett id (l.map Tv.t) = none := by
  unfold gett
  have h2 : hit id (ids (l.map Tv.t)) = false := h
  rw [h2]
  rfl
/-- what Get answers -/
def GtPost (w : World) (x : Lv) (id : Int) (e : Ending) (w' : World) : Prop :=
  ∃ y : Tv, e = .returned (.tuple #[tval y, .int .i64 (if (gett id (x.l.map Tv.t)).isSome then 0 else 9)]) ∧ y.t = (gett id (x.l.map Tv.t)).getD tn0 ∧ w'.ownsRow w.heap.size 49 34 y.v y.t.ws.length (tws y.t.ws) ∧ TIn y.t ∧ Below w.heap.size w w'
set_option maxRecDepth 100000 in
set_option maxHeartbeats 4000000 in
theorem get_any (x : Lv) (id : Int) (w : World) (hi : LIn w x) (hs : Rise (tids x.l)) :
    Calls Try.prog 10 #[lval x, .int .i64 id] w (GtPost w x id) := by
  obtain ⟨nx, l, A, cap⟩ := x
  have HI := Lib.hid hi
  have HS := Lib.hid (show Rise (tids l) from hs)
  clear hi hs
  obtain ⟨n, hn⟩ : ∃ n, l.length = n := ⟨_, rfl⟩
  have HN := Lib.hid hn
  have HM : n ≤ 10000 := by have := HI.out.few; have h2 : l.length ≤ 10000 := this; omega
  clear hn
  go_enter Try.func10, Try.ntmps10
  go_wp2_with (first
    | ((with_reducible refine wpList_box_box _ (o := ⟨some 2, .box _ _, _, _, _, _⟩) rfl _ _ rfl (lgc ⟨nx, l, A, cap⟩) rfl ?_); intro w1 x1 B1 s1)
    | ((with_reducible refine wpList_alloc_box _ (o := ⟨some 4, .alloc _, _, _, _, _⟩) rfl _ rfl (tnc tz) zero_tn ?_); intro w2 x2 B2 s2; obtain ⟨c0, c1⟩ := lg_box (x1.on B2); rw [s1] at x2 s2; have H2 := Lib.hid (And.intro (bthen B1 B2) (And.intro (x1.on B2) (And.intro x2 s2))); rw [s1]; clear x1 B1 s1 x2 B2 s2)
    | fail)
  refine (transOf_any ⟨nx, l, A, cap⟩ id w2 (Nat.le_trans HI.out.few (by decide)) HS.out ((HI.out.on H2.out.1).rd.1)).mono ?_
  rintro e w3 ⟨rfl, hb⟩
  have H3 := Lib.hid (And.intro (bthen H2.out.1 hb) (And.intro (H2.out.2.1.on hb) (H2.out.2.2.1.on hb)))
  clear hb c0 c1
  have HL := Lib.hid (HI.out.on H3.out.1)
  cases hh : hit id (tids l)
  · have HG := Lib.hid (hit_not hh)
    clear hh
    go_wp2_with (first
      | ((with_reducible refine wpList_store_var _ (o := ⟨none, .store _ (.tmp 4) _, _, _, _, _⟩) rfl 27 _ _ rfl (w.heap.size + 1) (tnc tz) (tnc tz) (tn_size _) rfl (tnc_one _) rfl rfl H3.out.2.2 ?_); go_loud (intro w7 x7 hg7))
      | fail)
    obtain ⟨j0, j1, j2⟩ := tn_box x7
    exact bodyPost_ret (v := .tuple #[tval tz, .int .i64 9]) (by simp [results, Try.results10, go_sem, j0, j1, j2, tnc]) rfl ⟨tz, by rw [HG.out]; rfl, by rw [HG.out]; rfl, World.ownsRow_nil _ _ _ _, ⟨by decide, fun o ho => by cases ho⟩, below_stored H3.out.1 hg7 H3.out.1.size (by omega)⟩
  · obtain ⟨y, hy, hg⟩ := hit_at hh
    have hlt := hit_lt hh
    rw [tids_length] at hlt
    have hpn : pos id (tids l) < n := by rw [← HN.out]; exact hlt
    dsimp only
    generalize pos id (tids l) = p at *
    obtain ⟨ad, hA, _, e0, e1, e2⟩ := tn_at HL.out.rd.1 hy
    obtain rfl : A = some ad := hA
    have HY := Lib.hid (And.intro hy hg)
    have hpi : (p : Int) < (n : Int) := by omega
    obtain ⟨c0, c1⟩ := lg_box H3.out.2.1
    simp only [HN.out] at c1
    clear hy hg hh hlt
    go_wp2_with fail
    refine (alone_any y w3 (HI.out.each y (List.mem_of_getElem? HY.out.1)) (HL.out.rd.2 y (List.mem_of_getElem? HY.out.1))).mono ?_
    rintro e w4 ⟨z, rfl, hz, hown, hb⟩
    have H4 := Lib.hid (And.intro (bthen H3.out.1 hb) (And.intro hz (own_base0 hown H3.out.1.size)))
    have HR := Lib.hid (H3.out.2.2.on hb)
    clear hz hown hb e0 e1 e2 c0 c1
    go_wp2_with (first
      | ((with_reducible refine wpList_store_var _ (o := ⟨none, .store _ (.tmp 4) _, _, _, _, _⟩) rfl 27 _ _ rfl (w.heap.size + 1) (tnc z) (tnc tz) (tn_size _) rfl (tnc_one _) rfl rfl HR.out ?_); go_loud (intro w7 x7 hg7))
      | fail)
    obtain ⟨j0, j1, j2⟩ := tn_box x7
    have HO := trow_kept H4.out.2.2 hg7 fun b hb e => by
      injection e with e
      subst e
      exact ttypes_box HR.out H4.out.2.2 hb
    exact bodyPost_ret (v := .tuple #[tval z, .int .i64 0]) (by simp [results, Try.results10, go_sem, j0, j1, j2, tnc]) rfl ⟨z, by rw [HY.out.2]; rfl, by rw [HY.out.2, H4.out.2.1]; rfl, HO, by rw [H4.out.2.1]; exact HI.out.each y (List.mem_of_getElem? HY.out.1), below_stored H4.out.1 hg7 H4.out.1.size (by omega)⟩
end Go.Proofs.Ytiljjgohmjimdaa

/-
  Package roll: copies of places and of changes; the group that a Commit makes.
-/
import Derived.Test.YtkbgogofedppgaaRoB
import Derived.Test.YtkbgogofedppgaaIsa
namespace Go.Proofs.Ytkbgogofedppgaa
open Go.RowKit Word Rec Scan Roll Leaf
set_option linter.unusedVariables false

theorem elemJ : Elem Try.prog 22 3 (.int .i64 0) 1 8 := .of Try.underlying22 (by kernel_rfl) rfl (by omega)
theorem jisnil (w : World) (a : Option Addr) (n c : Nat) : (binOp .eql 22 (.slice a n c) (.slice none 0 0)).run Try.prog w = .ok (.bool a.isNone) w := Lib.run_eql_slice_nil w _ _ a n c 0 0 Try.underlying22
set_option maxRecDepth 100000 in
set_option maxHeartbeats 4000000 in
theorem jclone_any (A : Option Addr) (n cap : Nat) (ps : List Int) (w : World) (hm : n ≤ 100000) (hn : ps.length = n) (hr : Rd w w.heap.size A (is ps)) :
    Calls Try.prog 16 #[.slice A n cap] w fun e w' => ∃ V, e = .returned V ∧ w'.ownsRow w.heap.size 3 1 V n (is ps) ∧ Below w.heap.size w w' := by
  have qN := jisnil
  have HL := Lib.hid (show (is ps).length = n * 1 by rw [is_length, hn, Nat.mul_one])
  cases A with
  | none =>
    have h0 : n = 0 := by
      rcases Nat.eq_zero_or_pos n with h | h
      · exact h
      · obtain ⟨_, h1, _⟩ := hr.at (is_get (zs := ps) (k := 0) (by omega))
        cases h1
    obtain rfl : ps = [] := List.eq_nil_of_length_eq_zero (by omega)
    subst h0
    clear hr HL hn
    go_enter Try.func16, Try.ntmps16
    go_wp2_with fail
    go_ret
    exact ⟨_, rfl, World.ownsRow_nil _ _ _ _, Below.refl _ _⟩
  | some ad =>
    clear hn
    go_enter Try.func16, Try.ntmps16
    go_wp2_with (at_builtin; refine wpList_append_copy _ rfl _ _ _ rfl 3 _ 1 8 elemJ rfl (some ad) n cap rfl (is ps) HL.out hr (is_one ps) (by simp only [maxLen]; omega) (by omega) ?_; intro A2 c2 w2 hown hb2)
    go_ret
    exact ⟨_, rfl, hown, hb2⟩
set_option maxRecDepth 100000 in
set_option maxHeartbeats 4000000 in
theorem hclone_any (A : Option Addr) (n cap : Nat) (l : List Ch) (w : World) (hm : n ≤ 100000) (hn : l.length = n) (hr : Rd w w.heap.size A (hls l)) :
    Calls Try.prog 18 #[.slice A n cap] w fun e w' => ∃ V, e = .returned V ∧ w'.ownsRow w.heap.size 44 2 V n (hls l) ∧ Below w.heap.size w w' := by
  have qN := isnil_ch
  have HL := Lib.hid (show (hls l).length = n * 2 by rw [hls_length, hn])
  cases A with
  | none =>
    have h0 : n = 0 := by
      rcases Nat.eq_zero_or_pos n with h | h
      · exact h
      · obtain ⟨_, h1, _⟩ := ch_at (k := 0) hr (List.getElem?_eq_getElem (by omega))
        cases h1
    obtain rfl : l = [] := List.eq_nil_of_length_eq_zero (by omega)
    subst h0
    clear hr HL hn
    go_enter Try.func18, Try.ntmps18
    go_wp2_with fail
    go_ret
    exact ⟨_, rfl, World.ownsRow_nil _ _ _ _, Below.refl _ _⟩
  | some ad =>
    clear hn
    go_enter Try.func18, Try.ntmps18
    go_wp2_with (at_builtin; refine wpList_append_copy _ rfl _ _ _ rfl 44 _ 2 16 elemC rfl (some ad) n cap rfl (hls l) HL.out hr (hls_one l) (by simp only [maxLen]; omega) (by omega) ?_; intro A2 c2 w2 hown hb2)
    go_ret
    exact ⟨_, rfl, hown, hb2⟩
/-- what a Commit makes -/
abbrev ggv (x : Gv) : Value := .agg (gcs x).toArray
set_option maxRecDepth 100000 in
set_option maxHeartbeats 4000000 in
theorem held_any (r : Rc) (A : Option Addr) (n cap : Nat) (l : List Ch) (w : World) (hi : In r) (hm : n ≤ 100000) (hn : l.length = n) (hr : Rd w w.heap.size A (hls l)) :
    Calls Try.prog 17 #[.agg (rcs r).toArray, .slice A n cap] w fun e w' => ∃ x : Gv, e = .returned (ggv x) ∧ x.g = ⟨decide (r.block = 1), r.seq, l⟩ ∧ w'.ownsRow w.heap.size 44 2 x.v x.g.ch.length (hls x.g.ch) ∧ Below w.heap.size w w' := by
  have HC := Lib.hid fun w' (h : Below w.heap.size w w') => hclone_any A n cap l w' hm hn ((hr.below h).more h.size)
  have HN := Lib.hid hn
  clear hr hn
  go_enter Try.func17, Try.ntmps17
  go_wp2_with (first
    | ((with_reducible refine wpList_rc_box (o := ⟨some 2, .box _ _, _, _, _, _⟩) rfl _ rfl r rfl ?_); intro w1 hb1 B1 hs1; have H1 := Lib.hid (And.intro hb1 (And.intro B1 hs1)); clear hb1 B1 hs1)
    | fail)
  have x2 := Box.new w1 28 [.bool false, .int .i64 0, .slice none 0 0]
  have b2 : Below w.heap.size w (w1.alloc (.cells #[.bool false, .int .i64 0, .slice none 0 0] 28)) := H1.out.2.1.alloc H1.out.2.1.size _
  have y2 : Box (w1.alloc (.cells #[.bool false, .int .i64 0, .slice none 0 0] 28)) w.heap.size 39 (rcs r) := H1.out.1.on ((Below.refl _ _).alloc (Nat.le_refl _) _)
  have x2 : Box (w1.alloc (.cells #[.bool false, .int .i64 0, .slice none 0 0] 28)) w1.heap.size 28 [.bool false, .int .i64 0, .slice none 0 0] := x2
  have hlt : w.heap.size < w1.heap.size := by rw [H1.out.2.2]; omega
  generalize World.alloc _ _ = w2 at x2 y2 b2 ⊢
  have SO := Lib.hid fun w' (h : Below w2.heap.size w2 w') => (⟨(y2.on h).rc.2.2.1, (y2.on h).rc.2.2.2.1⟩ : w'.cell? ⟨w.heap.size, 2, none⟩ = some (.int .i64 r.seq) ∧ w'.cell? ⟨w.heap.size, 3, none⟩ = some (.int .i64 r.block))
  have BO := Lib.hid fun w' (h : Below w2.heap.size w2 w') => (b2.trans (h.mono b2.size) : Below w.heap.size w w')
  have HX := Lib.hid x2
  have HL := Lib.hid hlt
  have HF := Lib.hid fun w' (h : Below w2.heap.size w2 w') w9 (hg : w'.grownBy w9 (some w1.heap.size)) => (⟨((y2.on h).grown hg (by omega)).rc.2.2.1, ((y2.on h).grown hg (by omega)).rc.2.2.2.1⟩ : w9.cell? ⟨w.heap.size, 2, none⟩ = some (.int .i64 r.seq) ∧ w9.cell? ⟨w.heap.size, 3, none⟩ = some (.int .i64 r.block))
  clear x2 y2 b2 hlt
  refine wp_region_held_drew (S := (fun w' => w'.cell? ⟨w.heap.size, 2, none⟩ = some (.int .i64 r.seq) ∧ w'.cell? ⟨w.heap.size, 3, none⟩ = some (.int .i64 r.block))) (by kernel_rfl) ?_ (fun hHeld => ?_)
  · exact SO.out _ (Below.refl _ _).drew
  refine wpAnyH_take (i := 0) (oi := ⟨some 5, .fieldAddr _ _ _, _, _, _, _⟩) (v := ?v1) rfl (by kernel_rfl) (by kernel_rfl) (by kernel_rfl) (fun _ _ _ h => h) (Or.inl ⟨by rfl, ?hy1⟩) (by assumption) ?rest1
  case hy1 =>
    intro w hSw
    obtain ⟨hS0, hS1⟩ := hSw
    go_simp
    try with_reducible rfl
  try simp only [Act.put, List.setIfInBounds_toArray, List.set_cons_zero, List.set_cons_succ]
  refine wpAnyH_take (i := 1) (oi := ⟨some 6, .load _ _, _, _, _, _⟩) (v := ?v2) rfl (by kernel_rfl) (by kernel_rfl) (by kernel_rfl) (fun _ _ _ h => h) (Or.inl ⟨by rfl, ?hy2⟩) (by assumption) ?rest2
  case hy2 =>
    intro w hSw
    obtain ⟨hS0, hS1⟩ := hSw
    go_simp
    try with_reducible rfl
  try simp only [Act.put, List.setIfInBounds_toArray, List.set_cons_zero, List.set_cons_succ]
  refine wpAnyH_take (i := 2) (oi := ⟨some 7, .binOp _ _ _ _ _, _, _, _, _⟩) (v := ?v3) rfl (by kernel_rfl) (by kernel_rfl) (by kernel_rfl) (fun _ _ _ h => h) (Or.inl ⟨by rfl, ?hy3⟩) (by assumption) ?rest3
  case hy3 =>
    intro w hSw
    obtain ⟨hS0, hS1⟩ := hSw
    go_simp
    try with_reducible rfl
  try simp only [Act.put, List.setIfInBounds_toArray, List.set_cons_zero, List.set_cons_succ]
  refine wpAnyH_take (i := 3) (oi := ⟨some 8, .fieldAddr _ _ _, _, _, _, _⟩) (v := ?v4) rfl (by kernel_rfl) (by kernel_rfl) (by kernel_rfl) (fun _ _ _ h => h) (Or.inl ⟨by rfl, ?hy4⟩) (by assumption) ?rest4
  case hy4 =>
    intro w hSw
    obtain ⟨hS0, hS1⟩ := hSw
    go_simp
    try with_reducible rfl
  try simp only [Act.put, List.setIfInBounds_toArray, List.set_cons_zero, List.set_cons_succ]
  refine wpAnyH_take (i := 4) (oi := ⟨some 9, .load _ _, _, _, _, _⟩) (v := ?v5) rfl (by kernel_rfl) (by kernel_rfl) (by kernel_rfl) (fun _ _ _ h => h) (Or.inl ⟨by rfl, ?hy5⟩) (by assumption) ?rest5
  case hy5 =>
    intro w hSw
    obtain ⟨hS0, hS1⟩ := hSw
    go_simp
    try with_reducible rfl
  try simp only [Act.put, List.setIfInBounds_toArray, List.set_cons_zero, List.set_cons_succ]
  refine wpAnyH_take (i := 5) (oi := ⟨some 10, .move _, _, _, _, _⟩) (v := ?v6) rfl (by kernel_rfl) (by kernel_rfl) (by kernel_rfl) (fun _ _ _ h => h) (Or.inl ⟨by rfl, ?hy6⟩) (by assumption) ?rest6
  case hy6 =>
    intro w hSw
    obtain ⟨hS0, hS1⟩ := hSw
    go_simp
    try with_reducible rfl
  try simp only [Act.put, List.setIfInBounds_toArray, List.set_cons_zero, List.set_cons_succ]
  refine wpAnyH_ready (rs := [6]) (by kernel_rfl) (by simp) ?_
  refine AllReadyH.cons (o := ⟨some 11, .call _, _, _, _, _⟩) rfl (fun K hK => ?_) AllReadyH.nil
  go_simp
  refine (HC.out _ (BO.out _ (Below.refl _ _).drew)).mono ?_
  rintro e w5 ⟨V, rfl, hown5, hb5⟩
  have B5 : Below w2.heap.size w2 w5 := bthen (Below.refl _ _).drew hb5
  obtain ⟨A3, c3, rfl⟩ := own_slice hown5
  have HO := Lib.hid (own_base0 hown5 (show w.heap.size ≤ _ from (BO.out _ (Below.refl _ _)).size))
  have HX5 := Lib.hid (HX.out.on B5)
  clear hown5 hb5
  go_wp2_with fail
  clear hHeld
  refine hK.out _ _ (SO.out _ B5) (fun hHeld => ?_)
  clear hK K
  try simp only [Act.put, List.setIfInBounds_toArray, List.set_cons_zero, List.set_cons_succ]
  refine wpAnyH_take (i := 7) (oi := ⟨some 12, .build _ _, _, _, _, _⟩) (v := ?v7) rfl (by kernel_rfl) (by kernel_rfl) (by kernel_rfl) (fun _ _ _ h => h) (Or.inl ⟨by rfl, ?hy7⟩) (by assumption) ?rest7
  case hy7 =>
    intro w hSw
    obtain ⟨hS0, hS1⟩ := hSw
    go_simp
    try with_reducible rfl
  try simp only [Act.put, List.setIfInBounds_toArray, List.set_cons_zero, List.set_cons_succ]
  refine wpAnyH_ready (rs := [8]) (by kernel_rfl) (by simp) ?_
  refine AllReadyH.cons (o := ⟨none, .store _ _ _, _, _, _, _⟩) rfl (fun K hK => ?_) AllReadyH.nil
  refine step_store_box _ rfl 28 _ _ rfl w1.heap.size (gcs ⟨⟨decide (r.block = 1), r.seq, l⟩, A3, c3⟩) (gcs gz) (gv_size _) rfl (gcs_one _) rfl ?hy HX5.out ?_
  case hy =>
    show Value.agg _ = Value.agg _
    rw [← HN.out]
    rfl
  intro w6 hb6 hg6
  have hlt := HL.out
  have HO6 := Lib.hid (row_kept HO.out hg6 fun b hb e => by
    injection e with e
    subst e
    exact types_box HX5.out HO.out hb)
  have HB6 := Lib.hid (below_stored (BO.out _ B5) hg6 (BO.out _ B5).size (by omega : w.heap.size ≤ w1.heap.size))
  have HS6 := Lib.hid (HF.out _ B5 _ hg6)
  obtain ⟨k0, k1, k2⟩ := gv_box hb6
  clear hHeld hb6
  refine hK.out _ _ HS6.out (fun hHeld => ?_)
  clear hK K
  try simp only [Act.put]
  refine wpAnyH_done (by kernel_rfl) ?_ _
  clear hHeld
  have HG : Hid (∃ x : Gv, ggv ⟨⟨decide (r.block = 1), r.seq, l⟩, A3, c3⟩ = ggv x ∧ x.g = ⟨decide (r.block = 1), r.seq, l⟩ ∧ w6.ownsRow w.heap.size 44 2 x.v x.g.ch.length (hls x.g.ch)) := by
    have h := HO6.out
    rw [← HN.out] at h
    exact Lib.hid ⟨_, rfl, rfl, h⟩
  go_wp2
  exact bodyPost_ret (v := ggv ⟨⟨decide (r.block = 1), r.seq, l⟩, A3, c3⟩) (by simp [results, Try.results17, go_sem, k0, k1, k2, ggv, gcs]) rfl (by
    obtain ⟨x, h1, h2, h3⟩ := HG.out
    exact ⟨x, by rw [h1], h2, h3, HB6.out⟩)
end Go.Proofs.Ytkbgogofedppgaa

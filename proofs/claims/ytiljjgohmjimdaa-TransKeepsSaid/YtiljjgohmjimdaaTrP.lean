/-
  The answer's Find, Get, Oldest of layer 18.
-/
import Derived.Test.YtiljjgohmjimdaaTrO
namespace Go.Proofs.Ytiljjgohmjimdaa
open Go.RowKit Word Tran
set_option linter.unusedVariables false

/-- the truth of a proposition -/
noncomputable def tr (P : Prop) : Bool := @decide P (Classical.propDecidable P)
theorem tr_iff {P : Prop} : tr P = true ↔ P := by
  unfold tr
  exact @decide_eq_true_iff P (Classical.propDecidable P)
theorem tr_yes {P : Prop} (h : P) : tr P = true := tr_iff.2 h
theorem tr_no {P : Prop} (h : ¬ P) : tr P = false := by
  cases ht : tr P
  · rfl
  · exact absurd (tr_iff.1 ht) h
theorem TellsB.is {e : Ending} {P : Prop} (h : TellsB e P) : e = .returned (.bool (tr P)) := by
  obtain ⟨r, rfl, hr⟩ := h
  cases r
  · rw [tr_no fun hp => by have := hr.2 hp; cases this]
  · rw [tr_yes (hr.1 rfl)]
theorem rright_any18 (x : Tv) (w : World) (hm : x.t.ws.length ≤ maxLen) (hin : ∀ o ∈ x.t.ws, WIn o) (hr : Rd w w.heap.size x.A (tws x.t.ws)) :
    Calls Try.prog 7 #[tval x] w fun e w' => e = .returned (.bool (tr (RiT x.t))) ∧ Below w.heap.size w w' :=
  (tright_any18 x w hm hin hr).mono fun e w' h => ⟨h.1.is, h.2⟩
theorem find_snoc {α : Type} (p : α → Bool) (l : List α) (k : Nat) (x : α) (hx : l[k]? = some x) (h : (l.take k).find? p = none) : (p x = true → l.find? p = some x) ∧ (p x = false → (l.take (k + 1)).find? p = none) := by
  obtain ⟨hk, rfl⟩ := List.getElem?_eq_some_iff.1 hx
  constructor
  · intro hp
    have e : l.take k ++ (l[k] :: l.drop (k + 1)) = l := by rw [← List.drop_eq_getElem_cons hk, List.take_append_drop]
    have h2 : (l.take k ++ (l[k] :: l.drop (k + 1))).find? p = some l[k] := by rw [List.find?_append, h, List.find?_cons, hp]; rfl
    rw [e] at h2
    exact h2
  · intro hp
    rw [List.take_succ_eq_append_getElem hk, List.find?_append, h]
    simp [hp]
set_option maxRecDepth 100000 in
set_option maxHeartbeats 4000000 in
theorem rget_any18 (x : Lv) (id : Int) (w : World) (hi : LIn w x) :
    Calls Try.prog 11 #[lval x, .int .i64 id] w fun e w' => e = .returned (.tuple #[tval ((x.l.find? fun y => y.t.id == id).getD tz), .bool (x.l.find? fun y => y.t.id == id).isSome]) ∧ Below w.heap.size w w' := by
  have HI := Lib.hid hi
  clear hi
  obtain ⟨nx, l, A, cap⟩ := x
  obtain ⟨n, hn⟩ : ∃ n, l.length = n := ⟨_, rfl⟩
  have HN := Lib.hid hn
  have HM : n ≤ 10000 := by have := HI.out.few; have h2 : l.length ≤ 10000 := this; omega
  clear hn
  go_enter Try.func11, Try.ntmps11
  go_wp2_with (first
    | ((with_reducible refine wpList_box_box _ (o := ⟨some 2, .box _ _, _, _, _, _⟩) rfl _ _ rfl (lgc ⟨nx, l, A, cap⟩) rfl ?_); intro w1 x1 B1 s1)
    | ((with_reducible refine wpList_alloc_box _ (o := ⟨some 4, .alloc _, _, _, _, _⟩) rfl _ rfl (tnc tz) zero_tn ?_); intro w2 x2 B2 s2; rw [s1]; rw [s1] at x2; have H2 := Lib.hid (And.intro (bthen B1 B2) (And.intro (x1.on B2) x2)); clear x1 B1 s1 x2 B2 s2)
    | fail)
  obtain ⟨c0, c1⟩ := lg_box H2.out.2.1
  simp only [HN.out] at c1
  go_loopw [6] (fun v6 wr => ∃ k : Nat, v6 = .int .i64 k ∧ k ≤ n ∧ Hid ((l.take k).find? (fun y => y.t.id == id) = none) ∧ wr = w2) (fun v6 _ => n - (intOf v6).toNat)
  case atStart => exact ⟨0, rfl, by omega, Lib.hid rfl, rfl⟩
  case round =>
    obtain ⟨k, rfl, hk, H4, rfl⟩ := hrel
    by_cases hlt : k < n
    · have hkl : k < l.length := by rw [HN.out]; exact hlt
      have hlk : l[k]? = some (l[k]'hkl) := List.getElem?_eq_getElem hkl
      obtain ⟨ad, rfl, _, e0, e1, e2⟩ := tn_at (HI.out.rd.below H2.out.1).1 hlk
      have HX := Lib.hid (find_snoc (fun y => y.t.id == id) l k _ hlk H4.out)
      generalize l[k]'hkl = y at *
      clear hlk hkl
      cases hq : y.t.id == id
      · have HQ := Lib.hid hq
        go_wp2
        go_roundw
        case rel => exact ⟨k + 1, by go_num, by omega, Lib.hid (HX.out.2 HQ.out), True.intro⟩
        case measure => first | (simp [intOf]; done) | (simp [intOf]; omega)
      · have HQ := Lib.hid (HX.out.1 hq)
        go_wp2_with (first
          | ((with_reducible refine wpList_store_var _ (o := ⟨none, .store _ (.tmp 4) _, _, _, _, _⟩) rfl 27 _ _ rfl (w.heap.size + 1) (tnc y) (tnc tz) (tn_size _) rfl (tnc_one _) rfl rfl H2.out.2.2 ?_); go_loud (intro w4 x4 hg4))
          | fail)
        obtain ⟨j0, j1, j2⟩ := tn_box x4
        have KB : Below w.heap.size w w4 := below_stored H2.out.1 hg4 H2.out.1.size (by omega)
        exact bodyPost_ret (v := .tuple #[tval y, .bool true]) (by simp [results, Try.results11, go_sem, j0, j1, j2, tnc]) rfl ⟨by rw [HQ.out]; rfl, KB⟩
    · obtain rfl : n = k := by omega
      have HE := Lib.hid (show l.find? (fun y => y.t.id == id) = none by have h := H4.out; rwa [List.take_of_length_le (by rw [HN.out]; exact Nat.le_refl _)] at h)
      go_wp2_with (first
        | ((with_reducible refine wpList_store_var _ (o := ⟨none, .store _ (.tmp 4) _, _, _, _, _⟩) rfl 27 _ _ rfl (w.heap.size + 1) (tnc tz) (tnc tz) (tn_size _) rfl (tnc_one _) rfl rfl H2.out.2.2 ?_); go_loud (intro w4 x4 hg4))
        | fail)
      obtain ⟨j0, j1, j2⟩ := tn_box x4
      have KB : Below w.heap.size w w4 := below_stored H2.out.1 hg4 H2.out.1.size (by omega)
      exact bodyPost_ret (v := .tuple #[tval tz, .bool false]) (by simp [results, Try.results11, go_sem, j0, j1, j2, tnc]) rfl ⟨by rw [HE.out]; rfl, KB⟩
set_option maxRecDepth 100000 in
set_option maxHeartbeats 4000000 in
theorem roldest_any18 (x : Lv) (now : Int) (w : World) (hi : LIn w x) :
    Calls Try.prog 18 #[lval x, .int .i64 now] w fun e w' => e = .returned (.int .i64 (oldT now (x.l.map Tv.t))) ∧ Below w.heap.size w w' := by
  have HI := Lib.hid hi
  clear hi
  obtain ⟨nx, l, A, cap⟩ := x
  obtain ⟨n, hn⟩ : ∃ n, l.length = n := ⟨_, rfl⟩
  have HN := Lib.hid hn
  have HM : n ≤ 10000 := by have := HI.out.few; have h2 : l.length ≤ 10000 := this; omega
  clear hn
  go_enter Try.func18, Try.ntmps18
  go_wp2_with (first
    | ((with_reducible refine wpList_box_box _ (o := ⟨some 2, .box _ _, _, _, _, _⟩) rfl _ _ rfl (lgc ⟨nx, l, A, cap⟩) rfl ?_); intro w1 x1 B1 s1; obtain ⟨c0, c1⟩ := lg_box x1; simp only [HN.out] at c1; have H1 := Lib.hid B1; clear x1 B1 s1)
    | fail)
  go_loopw [1, 5] (fun v1 v5 wr => ∃ k : Nat, v5 = .int .i64 k ∧ k ≤ n ∧ v1 = .int .i64 (oldT now ((l.take k).map Tv.t)) ∧ wr = w1) (fun _ v5 _ => n - (intOf v5).toNat)
  case atStart => exact ⟨0, rfl, by omega, rfl, rfl⟩
  case round =>
    obtain ⟨k, rfl, hk, rfl, rfl⟩ := hrel
    by_cases hlt : k < n
    · have hkl : k < l.length := by rw [HN.out]; exact hlt
      have hlk : l[k]? = some (l[k]'hkl) := List.getElem?_eq_getElem hkl
      obtain ⟨ad, rfl, _, e0, e1, e2⟩ := tn_at (HI.out.rd.below H1.out).1 hlk
      have HD := Lib.hid (show oldT now ((l.take (k + 1)).map Tv.t) = if k = 0 then (l[k]'hkl).t.bg else min (oldT now ((l.take k).map Tv.t)) (l[k]'hkl).t.bg by
        rw [List.take_succ_eq_append_getElem hkl, List.map_append]
        by_cases h0 : k = 0
        · subst h0; simp [oldT]
        · rw [if_neg h0]
          exact oldT_snoc now _ _ (by
            intro e
            have h2 : ((l.take k).map Tv.t).length = k := by rw [List.length_map, List.length_take]; omega
            rw [e] at h2
            exact h0 h2.symm))
      generalize l[k]'hkl = y at *
      generalize oldT now ((l.take k).map Tv.t) = o at *
      clear hlk hkl
      by_cases h0 : k = 0
      · have hb0 : ((k : Int) == 0) = true := by simp [h0]
        rw [if_pos h0] at HD
        clear h0
        go_wp2
        go_roundw
        case rel => exact ⟨k + 1, by go_num, by omega, by rw [HD.out], True.intro⟩
        case measure => first | (simp [intOf]; done) | (simp [intOf]; omega)
      · have hb0 : ((k : Int) == 0) = false := by simp [h0]
        rw [if_neg h0, min_alt] at HD
        clear h0
        by_cases hl : y.t.bg < o
        · rw [if_pos hl] at HD
          go_wp2
          go_roundw
          case rel => exact ⟨k + 1, by go_num, by omega, by rw [HD.out], True.intro⟩
          case measure => first | (simp [intOf]; done) | (simp [intOf]; omega)
        · rw [if_neg hl] at HD
          have hd : (decide (y.t.bg < o)) = false := decide_eq_false hl
          clear hl
          go_wp2
          go_roundw
          case rel => exact ⟨k + 1, by go_num, by omega, by rw [HD.out], True.intro⟩
          case measure => first | (simp [intOf]; done) | (simp [intOf]; omega)
    · obtain rfl : n = k := by omega
      have HE := Lib.hid (show (l.take n).map Tv.t = l.map Tv.t by rw [List.take_of_length_le (by rw [HN.out]; exact Nat.le_refl _)])
      go_wp2
      go_ret
      exact ⟨by rw [← HE.out]; rfl, H1.out⟩
end Go.Proofs.Ytiljjgohmjimdaa

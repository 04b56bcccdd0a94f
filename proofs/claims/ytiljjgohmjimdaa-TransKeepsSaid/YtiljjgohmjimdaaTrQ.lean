/-
  The answer's Same of layer 18.
-/
import Derived.Test.YtiljjgohmjimdaaTrP
namespace Go.Proofs.Ytiljjgohmjimdaa
open Go.RowKit Word Tran
set_option linter.unusedVariables false

theorem take_same {α : Type} {l m : List α} {k : Nat} {x y : α} (h : l.take k = m.take k) (hx : l[k]? = some x) (hy : m[k]? = some y) : (x = y → l.take (k + 1) = m.take (k + 1)) ∧ (x ≠ y → l ≠ m) := by
  constructor
  · intro e
    rw [List.take_add_one, List.take_add_one, h, hx, hy, e]
  · intro hne e
    rw [e, hy] at hx
    injection hx with hx
    exact hne hx.symm
theorem wt_loads {w : World} {B k m : Nat} {A : Option Addr} {l : List Wt} {o : Wt} (hr : Rd w B A (tws l)) (hin : ∀ o ∈ l, WIn o) (hk : l[k]? = some o) (hm : m = 34) :
    ∃ ad, A = some ad ∧ ∀ q, (loadCellsFrom (ad.add (k * m)) 0 m #[]).run Try.prog (w.drewN q) = .ok (twc o).toArray (w.drewN q) := by
  obtain ⟨ad, rfl, _⟩ := wt_some hr hin hk
  refine ⟨ad, rfl, fun q => ?_⟩
  have hr2 : Rd (w.drewN q) B (some ad) (tws l) := hr
  obtain ⟨ad2, e, h, _⟩ := wt_load (m := m) hr2 hin hk hm
  injection e with e
  rw [e]
  exact h
set_option maxRecDepth 100000 in
set_option maxHeartbeats 4000000 in
theorem rsame_any18 (x y : Tv) (w : World) (hx : TIn x.t) (hy : TIn y.t) (hrx : Rd w w.heap.size x.A (tws x.t.ws)) (hry : Rd w w.heap.size y.A (tws y.t.ws)) :
    Calls Try.prog 13 #[tval x, tval y] w fun e w' => TellsB e (x.t = y.t) ∧ Below w.heap.size w w' := by
  obtain ⟨m, hm34, hsz⟩ := big_size (P := Try.prog) (t := 49) (s := 34) (by kernel_rfl)
  have hm0 : ¬ m = 0 := by omega
  have HM := Lib.hid hm34
  have HI := Lib.hid (And.intro (And.intro hx.2 hrx) (And.intro hy.2 hry))
  have hgd := guard_wt
  obtain ⟨⟨id, bg, ws⟩, A, cap⟩ := x
  obtain ⟨⟨id2, bg2, ws2⟩, A2, cap2⟩ := y
  have hln : ws.length ≤ 10000 := hx.1
  have hln2 : ws2.length ≤ 10000 := hy.1
  clear hm34 hx hy hrx hry
  simp only at *
  obtain ⟨n, hn⟩ : ∃ n, ws.length = n := ⟨_, rfl⟩
  obtain ⟨n2, hn2⟩ : ∃ n2, ws2.length = n2 := ⟨_, rfl⟩
  have HN := Lib.hid (And.intro hn hn2)
  have hm : n ≤ 10000 := by omega
  have hm2 : n2 ≤ 10000 := by omega
  clear hn hn2 hln hln2
  by_cases hi : id = id2
  rotate_left
  · have hb0 : (id != id2) = true := by simpa using hi
    have HX := Lib.hid hi
    clear hi
    go_enter Try.func13, Try.ntmps13
    go_wp2_with (first
      | ((with_reducible refine wpList_box_box _ (o := ⟨some 2, .box _ _, _, _, _, _⟩) rfl _ _ rfl (tnc ⟨⟨id, bg, ws⟩, A, cap⟩) rfl ?_); intro w1 x1 B1 s1)
      | ((with_reducible refine wpList_box_box _ (o := ⟨some 3, .box _ _, _, _, _, _⟩) rfl _ _ rfl (tnc ⟨⟨id2, bg2, ws2⟩, A2, cap2⟩) rfl ?_); intro w2 x2 B2 s2; obtain ⟨c0, c1, c2⟩ := tn_box (x1.on B2); obtain ⟨d0, d1, d2⟩ := tn_box x2; rw [s1] at d0 d1 d2; rw [s1]; have H2 := Lib.hid (bthen B1 B2); clear x1 B1 s1 x2 B2 s2)
      | fail)
    go_ret
    exact ⟨TellsB.no rfl fun h => HX.out h.1, H2.out⟩
  by_cases hg2 : bg = bg2
  rotate_left
  · have hb0 : (id != id2) = false := by simp [hi]
    have hb1 : (bg != bg2) = true := by simpa using hg2
    have HX := Lib.hid hg2
    clear hi hg2
    go_enter Try.func13, Try.ntmps13
    go_wp2_with (first
      | ((with_reducible refine wpList_box_box _ (o := ⟨some 2, .box _ _, _, _, _, _⟩) rfl _ _ rfl (tnc ⟨⟨id, bg, ws⟩, A, cap⟩) rfl ?_); intro w1 x1 B1 s1)
      | ((with_reducible refine wpList_box_box _ (o := ⟨some 3, .box _ _, _, _, _, _⟩) rfl _ _ rfl (tnc ⟨⟨id2, bg2, ws2⟩, A2, cap2⟩) rfl ?_); intro w2 x2 B2 s2; obtain ⟨c0, c1, c2⟩ := tn_box (x1.on B2); obtain ⟨d0, d1, d2⟩ := tn_box x2; rw [s1] at d0 d1 d2; rw [s1]; have H2 := Lib.hid (bthen B1 B2); clear x1 B1 s1 x2 B2 s2)
      | fail)
    go_ret
    exact ⟨TellsB.no rfl fun h => HX.out h.2.1, H2.out⟩
  subst hi hg2
  have hb0 : (id != id) = false := by simp
  have hb1 : (bg != bg) = false := by simp
  by_cases hl : n = n2
  rotate_left
  · have hb2 : ((n : Int) != (n2 : Int)) = true := by simp; omega
    have HX := Lib.hid hl
    clear hl
    go_enter Try.func13, Try.ntmps13
    go_wp2_with (first
      | ((with_reducible refine wpList_box_box _ (o := ⟨some 2, .box _ _, _, _, _, _⟩) rfl _ _ rfl (tnc ⟨⟨id, bg, ws⟩, A, cap⟩) rfl ?_); intro w1 x1 B1 s1)
      | ((with_reducible refine wpList_box_box _ (o := ⟨some 3, .box _ _, _, _, _, _⟩) rfl _ _ rfl (tnc ⟨⟨id, bg, ws2⟩, A2, cap2⟩) rfl ?_); intro w2 x2 B2 s2; obtain ⟨c0, c1, c2⟩ := tn_box (x1.on B2); obtain ⟨d0, d1, d2⟩ := tn_box x2; rw [s1] at d0 d1 d2; rw [s1]; simp only [HN.out.1] at c2; simp only [HN.out.2] at d2; have H2 := Lib.hid (bthen B1 B2); clear x1 B1 s1 x2 B2 s2)
      | fail)
    go_ret
    exact ⟨TellsB.no rfl fun h => HX.out (by rw [← HN.out.1, ← HN.out.2, h]), H2.out⟩
  subst hl
  have hb2 : ((n : Int) != (n : Int)) = false := by simp
  go_enter Try.func13, Try.ntmps13
  go_wp2_with (first
    | ((with_reducible refine wpList_box_box _ (o := ⟨some 2, .box _ _, _, _, _, _⟩) rfl _ _ rfl (tnc ⟨⟨id, bg, ws⟩, A, cap⟩) rfl ?_); intro w1 x1 B1 s1)
    | ((with_reducible refine wpList_box_box _ (o := ⟨some 3, .box _ _, _, _, _, _⟩) rfl _ _ rfl (tnc ⟨⟨id, bg, ws2⟩, A2, cap2⟩) rfl ?_); intro w2 x2 B2 s2; obtain ⟨c0, c1, c2⟩ := tn_box (x1.on B2); obtain ⟨d0, d1, d2⟩ := tn_box x2; rw [s1] at d0 d1 d2; simp only [HN.out.1] at c2; simp only [HN.out.2] at d2; have H2 := Lib.hid (And.intro (bthen B1 B2) (And.intro (x1.on B2) x2)); rw [s1] at H2 ⊢; clear x1 B1 s1 x2 B2 s2)
    | fail)
  clear c0 c1 c2 d0 d1 d2
  go_loopw [5] (fun v5 wr => ∃ k : Nat, v5 = .int .i64 k ∧ k ≤ n ∧ Hid (ws.take k = ws2.take k) ∧ Hid (Below w.heap.size w wr ∧ Box wr w.heap.size 27 (tnc ⟨⟨id, bg, ws⟩, A, cap⟩) ∧ Box wr (w.heap.size + 1) 27 (tnc ⟨⟨id, bg, ws2⟩, A2, cap2⟩))) (fun v5 _ => n - (intOf v5).toNat)
  case atStart => exact ⟨0, rfl, by omega, Lib.hid rfl, H2⟩
  case round =>
    obtain ⟨k, rfl, hk, H4, H3⟩ := hrel
    clear H2
    obtain ⟨_, _, c2⟩ := tn_box H3.out.2.1
    obtain ⟨_, _, d2⟩ := tn_box H3.out.2.2
    simp only [HN.out.1] at c2
    simp only [HN.out.2] at d2
    by_cases hlt : k < n
    · have hlk : ws[k]? = some (ws[k]'(by rw [HN.out.1]; exact hlt)) := List.getElem?_eq_getElem _
      have hlk2 : ws2[k]? = some (ws2[k]'(by rw [HN.out.2]; exact hlt)) := List.getElem?_eq_getElem _
      obtain ⟨ad, rfl, hld⟩ := wt_loads (m := m) (HI.out.1.2.below H3.out.1) HI.out.1.1 hlk HM.out
      obtain ⟨ad2, rfl, hld2⟩ := wt_loads (m := m) (HI.out.2.2.below H3.out.1) HI.out.2.1 hlk2 HM.out
      have HX := Lib.hid (take_same H4.out hlk hlk2)
      have hne := fun w => neq_wt w _ _ (HI.out.1.1 _ (List.mem_of_getElem? hlk)) (HI.out.2.1 _ (List.mem_of_getElem? hlk2))
      generalize ws[k]'(by rw [HN.out.1]; exact hlt) = y0 at *
      generalize ws2[k]'(by rw [HN.out.2]; exact hlt) = y1 at *
      clear hlk hlk2
      have hki : (k : Int) < (n : Int) := by omega
      by_cases he : y0 = y1
      · have HE := Lib.hid he
        have hq : wtEq y0 y1 = true := (wtEq_iff _ _).2 he
        rw [hq] at hne
        clear he hq
        generalize twc y0 = L0 at *
        generalize twc y1 = L1 at *
        go_wp2_with fail
        go_quiet (fail)
        go_wp2
        go_roundw
        case rel => exact ⟨k + 1, by go_num, by omega, Lib.hid (HX.out.1 HE.out), Lib.hid ⟨below_draws H3.out.1 _, H3.out.2.1.on (below_draws (Below.refl _ _) _), H3.out.2.2.on (below_draws (Below.refl _ _) _)⟩⟩
        case measure => first | (simp [intOf]; done) | (simp [intOf]; omega)
      · have HE := Lib.hid he
        have hq : wtEq y0 y1 = false := by
          cases h : wtEq y0 y1
          · rfl
          · exact absurd ((wtEq_iff _ _).1 h) he
        rw [hq] at hne
        clear he hq
        generalize twc y0 = L0 at *
        generalize twc y1 = L1 at *
        go_wp2_with fail
        go_quiet (fail)
        go_wp2
        go_ret
        exact ⟨TellsB.no rfl fun h => HX.out.2 HE.out (by injection h), below_draws H3.out.1 _⟩
    · obtain rfl : n = k := by omega
      have HE := Lib.hid (show ws = ws2 by
        have h := H4.out
        rwa [List.take_of_length_le (by rw [HN.out.1]; exact Nat.le_refl _), List.take_of_length_le (by rw [HN.out.2]; exact Nat.le_refl _)] at h)
      go_wp2
      go_ret
      exact ⟨TellsB.yes rfl HE.out, H3.out.1⟩
theorem rsame_is (x y : Tv) (w : World) (hx : TIn x.t) (hy : TIn y.t) (hrx : Rd w w.heap.size x.A (tws x.t.ws)) (hry : Rd w w.heap.size y.A (tws y.t.ws)) :
    Calls Try.prog 13 #[tval x, tval y] w fun e w' => e = .returned (.bool (tr (x.t = y.t))) ∧ Below w.heap.size w w' :=
  (rsame_any18 x y w hx hy hrx hry).mono fun e w' h => ⟨h.1.is, h.2⟩
end Go.Proofs.Ytiljjgohmjimdaa

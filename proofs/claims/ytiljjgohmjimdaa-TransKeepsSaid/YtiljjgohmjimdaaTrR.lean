/-
  The answer's SameAll, RightAll of layer 18.
-/
import Derived.Test.YtiljjgohmjimdaaTrQ
namespace Go.Proofs.Ytiljjgohmjimdaa
open Go.RowKit Word Tran
set_option linter.unusedVariables false

/-- a transaction's value, written out -/
abbrev tagg (x : Tv) : Value := .agg #[.int .i64 x.t.id, .int .i64 x.t.bg, .slice x.A x.t.ws.length x.cap]
theorem tn_some {w : World} {B k : Nat} {ad : Addr} {l : List Tv} {x : Tv} (h : Rd w B (some ad) (tns l)) (hk : l[k]? = some x) :
    w.cell? (ad.add (k * 3)) = some (.int .i64 x.t.id) ∧ w.cell? ⟨(ad.add (k * 3)).block, (ad.add (k * 3)).off + 1, none⟩ = some (.int .i64 x.t.bg) ∧ w.cell? ⟨(ad.add (k * 3)).block, (ad.add (k * 3)).off + 2, none⟩ = some (.slice x.A x.t.ws.length x.cap) := by
  obtain ⟨ad2, e, _, h0, h1, h2⟩ := tn_at h hk
  injection e with e
  rw [e]
  exact ⟨h0, h1, h2⟩
set_option maxRecDepth 100000 in
set_option maxHeartbeats 4000000 in
theorem rsameall_any (x y : Lv) (w : World) (hx : LIn w x) (hy : LIn w y) :
    Calls Try.prog 9 #[lval x, lval y] w fun e w' => TellsB e (x.nx = y.nx ∧ x.l.map Tv.t = y.l.map Tv.t) ∧ Below w.heap.size w w' := by
  have HI := Lib.hid (And.intro hx hy)
  clear hx hy
  obtain ⟨nx, l, A, cap⟩ := x
  obtain ⟨nx2, l2, A2, cap2⟩ := y
  have hln : l.length ≤ 10000 := HI.out.1.few
  have hln2 : l2.length ≤ 10000 := HI.out.2.few
  obtain ⟨n, hn⟩ : ∃ n, l.length = n := ⟨_, rfl⟩
  obtain ⟨n2, hn2⟩ : ∃ n2, l2.length = n2 := ⟨_, rfl⟩
  have HN := Lib.hid (And.intro hn hn2)
  have hm : n ≤ 10000 := by omega
  have hm2 : n2 ≤ 10000 := by omega
  clear hn hn2 hln hln2
  by_cases hi : nx = nx2
  rotate_left
  · have hb0 : (nx != nx2) = true := by simpa using hi
    have HX := Lib.hid hi
    clear hi
    go_enter Try.func9, Try.ntmps9
    go_wp2_with (first
      | ((with_reducible refine wpList_box_box _ (o := ⟨some 2, .box _ _, _, _, _, _⟩) rfl _ _ rfl (lgc ⟨nx, l, A, cap⟩) rfl ?_); intro w1 x1 B1 s1)
      | ((with_reducible refine wpList_box_box _ (o := ⟨some 3, .box _ _, _, _, _, _⟩) rfl _ _ rfl (lgc ⟨nx2, l2, A2, cap2⟩) rfl ?_); intro w2 x2 B2 s2; obtain ⟨c0, c1⟩ := lg_box (x1.on B2); obtain ⟨d0, d1⟩ := lg_box x2; simp only [HN.out.1] at c1; simp only [HN.out.2] at d1; rw [s1] at d0 d1; have H2 := Lib.hid (And.intro (bthen B1 B2) (And.intro (x1.on B2) x2)); rw [s1] at H2 ⊢; clear x1 B1 s1 x2 B2 s2)
      | fail)
    go_ret
    exact ⟨TellsB.no rfl fun h => HX.out h.1, H2.out.1⟩
  subst hi
  have hb0 : (nx != nx) = false := by simp
  by_cases hl : n = n2
  rotate_left
  · have hb2 : ((n : Int) != (n2 : Int)) = true := by simp; omega
    have HX := Lib.hid hl
    clear hl
    go_enter Try.func9, Try.ntmps9
    go_wp2_with (first
      | ((with_reducible refine wpList_box_box _ (o := ⟨some 2, .box _ _, _, _, _, _⟩) rfl _ _ rfl (lgc ⟨nx, l, A, cap⟩) rfl ?_); intro w1 x1 B1 s1)
      | ((with_reducible refine wpList_box_box _ (o := ⟨some 3, .box _ _, _, _, _, _⟩) rfl _ _ rfl (lgc ⟨nx, l2, A2, cap2⟩) rfl ?_); intro w2 x2 B2 s2; obtain ⟨c0, c1⟩ := lg_box (x1.on B2); obtain ⟨d0, d1⟩ := lg_box x2; simp only [HN.out.1] at c1; simp only [HN.out.2] at d1; rw [s1] at d0 d1; have H2 := Lib.hid (And.intro (bthen B1 B2) (And.intro (x1.on B2) x2)); rw [s1] at H2 ⊢; clear x1 B1 s1 x2 B2 s2)
      | fail)
    go_ret
    exact ⟨TellsB.no rfl fun h => HX.out (by have h2 := congrArg List.length (show l.map Tv.t = l2.map Tv.t by first | exact h | exact h.2); simp only [List.length_map] at h2; rw [← HN.out.1, ← HN.out.2, h2]), H2.out.1⟩
  subst hl
  have hb2 : ((n : Int) != (n : Int)) = false := by simp
  go_enter Try.func9, Try.ntmps9
  go_wp2_with (first
    | ((with_reducible refine wpList_box_box _ (o := ⟨some 2, .box _ _, _, _, _, _⟩) rfl _ _ rfl (lgc ⟨nx, l, A, cap⟩) rfl ?_); intro w1 x1 B1 s1)
    | ((with_reducible refine wpList_box_box _ (o := ⟨some 3, .box _ _, _, _, _, _⟩) rfl _ _ rfl (lgc ⟨nx, l2, A2, cap2⟩) rfl ?_); intro w2 x2 B2 s2; obtain ⟨c0, c1⟩ := lg_box (x1.on B2); obtain ⟨d0, d1⟩ := lg_box x2; simp only [HN.out.1] at c1; simp only [HN.out.2] at d1; rw [s1] at d0 d1; have H2 := Lib.hid (And.intro (bthen B1 B2) (And.intro (x1.on B2) x2)); rw [s1] at H2 ⊢; clear x1 B1 s1 x2 B2 s2)
    | fail)
  clear c0 c1 d0 d1
  go_loopw [5] (fun v5 wr => ∃ k : Nat, v5 = .int .i64 k ∧ k ≤ n ∧ Hid ((l.map Tv.t).take k = (l2.map Tv.t).take k) ∧ Hid (Box wr w.heap.size 24 (lgc ⟨nx, l, A, cap⟩) ∧ Box wr (w.heap.size + 1) 24 (lgc ⟨nx, l2, A2, cap2⟩) ∧ Below w.heap.size w wr)) (fun v5 _ => n - (intOf v5).toNat)
  case atStart => exact ⟨0, rfl, by omega, Lib.hid rfl, Lib.hid ⟨H2.out.2.1, H2.out.2.2, H2.out.1⟩⟩
  case round =>
    obtain ⟨k, rfl, hk, H4, H3⟩ := hrel
    clear H2
    obtain ⟨_, c1⟩ := lg_box H3.out.1
    simp only [HN.out.1] at c1
    by_cases hlt : k < n
    · have hlk : l[k]? = some (l[k]'(by rw [HN.out.1]; exact hlt)) := List.getElem?_eq_getElem _
      have hlk2 : l2[k]? = some (l2[k]'(by rw [HN.out.2]; exact hlt)) := List.getElem?_eq_getElem _
      obtain ⟨ad, hA, _⟩ := tn_at HI.out.1.rd.1 hlk
      obtain ⟨ad2, hA2, _⟩ := tn_at HI.out.2.rd.1 hlk2
      obtain rfl : A = some ad := hA
      obtain rfl : A2 = some ad2 := hA2
      have HX := Lib.hid (take_same H4.out (tv_at hlk) (tv_at hlk2))
      have HXX := Lib.hid (And.intro hlk hlk2)
      generalize l[k]'(by rw [HN.out.1]; exact hlt) = y0 at *
      generalize l2[k]'(by rw [HN.out.2]; exact hlt) = y1 at *
      have HC : Hid (∀ w', Below w.heap.size w w' → Calls Try.prog 13 #[tagg y0, tagg y1] w' fun e w'' => e = .returned (.bool (tr (y0.t = y1.t))) ∧ Below w'.heap.size w' w'') := Lib.hid fun w' (hb : Below w.heap.size w w') => rsame_is y0 y1 w' (HI.out.1.each y0 (List.mem_of_getElem? hlk)) (HI.out.2.each y1 (List.mem_of_getElem? hlk2)) (((HI.out.1.rd.2 y0 (List.mem_of_getElem? hlk)).below hb).more hb.size) (((HI.out.2.rd.2 y1 (List.mem_of_getElem? hlk2)).below hb).more hb.size)
      clear hlk hlk2
      have hki : (k : Int) < (n : Int) := by omega
      by_cases he : y0.t = y1.t
      · rw [tr_yes he] at HC
        have HE := Lib.hid he
        clear he
        go_wp2_with fail
        clear c1
        refine wp_region_class (fun w' => Box w' w.heap.size 24 (lgc ⟨nx, l, some ad, cap⟩) ∧ Box w' (w.heap.size + 1) 24 (lgc ⟨nx, l2, some ad2, cap2⟩) ∧ Below w.heap.size w w') (by kernel_rfl) (by kernel_rfl) ⟨H3.out.1.on (Below.refl _ _).drew, H3.out.2.1.on (Below.refl _ _).drew, H3.out.2.2.drew⟩ ?_
        intro X hX f hf hg
        have a1 : ∀ x, (f x).cell? ⟨w.heap.size, 1, none⟩ = some (.slice (some ad) n cap) := fun x => (lg_box (hf x).1).2.trans (by rw [← HN.out.1])
        have b1 : ∀ x, (f x).cell? ⟨w.heap.size + 1, 1, none⟩ = some (.slice (some ad2) n cap2) := fun x => (lg_box (hf x).2.1).2.trans (by rw [← HN.out.2])
        have e0 : ∀ x, (f x).cell? (ad.add (k * 3)) = some (.int .i64 y0.t.id) := fun x => (tn_some (HI.out.1.rd.below (hf x).2.2).1 HXX.out.1).1
        have e1 : ∀ x, (f x).cell? ⟨(ad.add (k * 3)).block, (ad.add (k * 3)).off + 1, none⟩ = some (.int .i64 y0.t.bg) := fun x => (tn_some (HI.out.1.rd.below (hf x).2.2).1 HXX.out.1).2.1
        have e2 : ∀ x, (f x).cell? ⟨(ad.add (k * 3)).block, (ad.add (k * 3)).off + 2, none⟩ = some (.slice y0.A y0.t.ws.length y0.cap) := fun x => (tn_some (HI.out.1.rd.below (hf x).2.2).1 HXX.out.1).2.2
        have g0 : ∀ x, (f x).cell? (ad2.add (k * 3)) = some (.int .i64 y1.t.id) := fun x => (tn_some (HI.out.2.rd.below (hf x).2.2).1 HXX.out.2).1
        have g1 : ∀ x, (f x).cell? ⟨(ad2.add (k * 3)).block, (ad2.add (k * 3)).off + 1, none⟩ = some (.int .i64 y1.t.bg) := fun x => (tn_some (HI.out.2.rd.below (hf x).2.2).1 HXX.out.2).2.1
        have g2 : ∀ x, (f x).cell? ⟨(ad2.add (k * 3)).block, (ad2.add (k * 3)).off + 2, none⟩ = some (.slice y1.A y1.t.ws.length y1.cap) := fun x => (tn_some (HI.out.2.rd.below (hf x).2.2).1 HXX.out.2).2.2
        have Hf := Lib.hid hf
        have Hg := Lib.hid hg
        clear hf hg
        repeat (go_big_quiet_step (first
          | (go_at_call 13; with_reducible (exact calls_class ((HC.out _ (Hf.out _).2.2)) (fun _ hb => Hg.out _ ⟨(Hf.out _).1.on hb, (Hf.out _).2.1.on hb, bthen (Hf.out _).2.2 hb⟩)))
          | fail))
        refine wpQuiet_nil ?_
        rintro _ ⟨x, rfl⟩
        have HT := Lib.hid (Hf.out x)
        clear a1 b1 e0 e1 e2 g0 g1 g2 Hf Hg
        generalize f x = w5 at HT ⊢
        clear x f hX
        go_wp2
        go_roundw
        case rel => exact ⟨k + 1, by go_num, by omega, Lib.hid (HX.out.1 HE.out), HT⟩
        case measure => first | (simp [intOf]; done) | (simp [intOf]; omega)
      · rw [tr_no he] at HC
        have HE := Lib.hid he
        clear he
        go_wp2_with fail
        clear c1
        refine wp_region_class (fun w' => Box w' w.heap.size 24 (lgc ⟨nx, l, some ad, cap⟩) ∧ Box w' (w.heap.size + 1) 24 (lgc ⟨nx, l2, some ad2, cap2⟩) ∧ Below w.heap.size w w') (by kernel_rfl) (by kernel_rfl) ⟨H3.out.1.on (Below.refl _ _).drew, H3.out.2.1.on (Below.refl _ _).drew, H3.out.2.2.drew⟩ ?_
        intro X hX f hf hg
        have a1 : ∀ x, (f x).cell? ⟨w.heap.size, 1, none⟩ = some (.slice (some ad) n cap) := fun x => (lg_box (hf x).1).2.trans (by rw [← HN.out.1])
        have b1 : ∀ x, (f x).cell? ⟨w.heap.size + 1, 1, none⟩ = some (.slice (some ad2) n cap2) := fun x => (lg_box (hf x).2.1).2.trans (by rw [← HN.out.2])
        have e0 : ∀ x, (f x).cell? (ad.add (k * 3)) = some (.int .i64 y0.t.id) := fun x => (tn_some (HI.out.1.rd.below (hf x).2.2).1 HXX.out.1).1
        have e1 : ∀ x, (f x).cell? ⟨(ad.add (k * 3)).block, (ad.add (k * 3)).off + 1, none⟩ = some (.int .i64 y0.t.bg) := fun x => (tn_some (HI.out.1.rd.below (hf x).2.2).1 HXX.out.1).2.1
        have e2 : ∀ x, (f x).cell? ⟨(ad.add (k * 3)).block, (ad.add (k * 3)).off + 2, none⟩ = some (.slice y0.A y0.t.ws.length y0.cap) := fun x => (tn_some (HI.out.1.rd.below (hf x).2.2).1 HXX.out.1).2.2
        have g0 : ∀ x, (f x).cell? (ad2.add (k * 3)) = some (.int .i64 y1.t.id) := fun x => (tn_some (HI.out.2.rd.below (hf x).2.2).1 HXX.out.2).1
        have g1 : ∀ x, (f x).cell? ⟨(ad2.add (k * 3)).block, (ad2.add (k * 3)).off + 1, none⟩ = some (.int .i64 y1.t.bg) := fun x => (tn_some (HI.out.2.rd.below (hf x).2.2).1 HXX.out.2).2.1
        have g2 : ∀ x, (f x).cell? ⟨(ad2.add (k * 3)).block, (ad2.add (k * 3)).off + 2, none⟩ = some (.slice y1.A y1.t.ws.length y1.cap) := fun x => (tn_some (HI.out.2.rd.below (hf x).2.2).1 HXX.out.2).2.2
        have Hf := Lib.hid hf
        have Hg := Lib.hid hg
        clear hf hg
        repeat (go_big_quiet_step (first
          | (go_at_call 13; with_reducible (exact calls_class ((HC.out _ (Hf.out _).2.2)) (fun _ hb => Hg.out _ ⟨(Hf.out _).1.on hb, (Hf.out _).2.1.on hb, bthen (Hf.out _).2.2 hb⟩)))
          | fail))
        refine wpQuiet_nil ?_
        rintro _ ⟨x, rfl⟩
        have HT := Lib.hid (Hf.out x)
        clear a1 b1 e0 e1 e2 g0 g1 g2 Hf Hg
        generalize f x = w5 at HT ⊢
        clear x f hX
        go_wp2
        go_ret
        exact ⟨TellsB.no rfl fun h => HX.out.2 HE.out (by first | exact h | exact h.2), HT.out.2.2⟩
    · obtain rfl : n = k := by omega
      have HE := Lib.hid (show l.map Tv.t = l2.map Tv.t by
        have h := H4.out
        rwa [List.take_of_length_le (by rw [List.length_map, HN.out.1]; exact Nat.le_refl _), List.take_of_length_le (by rw [List.length_map, HN.out.2]; exact Nat.le_refl _)] at h)
      go_wp2
      go_ret
      exact ⟨TellsB.yes rfl (by first | exact HE.out | exact ⟨rfl, HE.out⟩), H3.out.2.2⟩
theorem rsameall_is (x y : Lv) (w : World) (hx : LIn w x) (hy : LIn w y) :
    Calls Try.prog 9 #[lval x, lval y] w fun e w' => e = .returned (.bool (tr (x.nx = y.nx ∧ x.l.map Tv.t = y.l.map Tv.t))) ∧ Below w.heap.size w w' :=
  (rsameall_any x y w hx hy).mono fun e w' h => ⟨h.1.is, h.2⟩
end Go.Proofs.Ytiljjgohmjimdaa

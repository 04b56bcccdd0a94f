/-
  The answer's RightAll of layer 18.
-/
import Derived.Test.YtiljjgohmjimdaaTrR
namespace Go.Proofs.Ytiljjgohmjimdaa
open Go.RowKit Word Tran
set_option linter.unusedVariables false

theorem tn_zero0 {w : World} {B : Nat} {ad : Addr} {l : List Tv} {x : Tv} (h : Rd w B (some ad) (tns l)) (hk : l[0]? = some x) : w.cell? ad = some (.int .i64 x.t.id) := by
  have := (tn_some h hk).1
  rw [Nat.zero_mul] at this
  exact this
theorem tn_zero1 {w : World} {B : Nat} {ad : Addr} {l : List Tv} {x : Tv} (h : Rd w B (some ad) (tns l)) (hk : l[0]? = some x) : w.cell? ⟨ad.block, ad.off + 1, none⟩ = some (.int .i64 x.t.bg) := by
  have := (tn_some h hk).2.1
  rw [Nat.zero_mul] at this
  exact this
theorem tn_zero2 {w : World} {B : Nat} {ad : Addr} {l : List Tv} {x : Tv} (h : Rd w B (some ad) (tns l)) (hk : l[0]? = some x) : w.cell? ⟨ad.block, ad.off + 2, none⟩ = some (.slice x.A x.t.ws.length x.cap) := by
  have := (tn_some h hk).2.2
  rw [Nat.zero_mul] at this
  exact this
/-- a ledger as an argument -/
structure LRaw (w : World) (x : Lv) : Prop where
  few : x.l.length ≤ maxLen
  rd : TRd w w.heap.size x.A x.l
  each : ∀ y ∈ x.l, y.t.ws.length ≤ maxLen ∧ ∀ o ∈ y.t.ws, WIn o
/-- of each of them -/
def RiE (nx : Int) (t : Tn) : Prop := RiT t ∧ 0 ≤ t.id ∧ t.id < nx
/-- is a ledger right? -/
def RiL (nx : Int) (l : List Tv) : Prop := l.length ≤ 16 ∧ 0 ≤ nx ∧ nx ≤ 1099511627776 ∧ (∀ y ∈ l, RiE nx y.t) ∧ Rise (tids l)
theorem tids_at {l : List Tv} {k : Nat} {x : Tv} (h : l[k]? = some x) : (tids l)[k]? = some x.t.id := ids_at (tv_at h)
set_option maxRecDepth 100000 in
set_option maxHeartbeats 4000000 in
theorem rrightall_any (x : Lv) (w : World) (hx : LRaw w x) :
    Calls Try.prog 6 #[lval x] w fun e w' => TellsB e (RiL x.nx x.l) ∧ Below w.heap.size w w' := by
  have HI := Lib.hid hx
  clear hx
  obtain ⟨nx, l, A, cap⟩ := x
  have hln : l.length ≤ maxLen := HI.out.few
  obtain ⟨n, hn⟩ : ∃ n, l.length = n := ⟨_, rfl⟩
  have HN := Lib.hid hn
  have hm : n ≤ maxLen := by omega
  unfold maxLen at hm
  clear hn hln
  by_cases h1 : 16 < n
  · have hd1 : (decide ((16 : Int) < (n : Int))) = true := decide_eq_true (by omega)
    have HX := Lib.hid h1
    clear h1
    go_enter Try.func6, Try.ntmps6
    go_wp2_with (first
      | ((with_reducible refine wpList_box_box _ (o := ⟨some 1, .box _ _, _, _, _, _⟩) rfl _ _ rfl (lgc ⟨nx, l, A, cap⟩) rfl ?_); intro w1 x1 B1 s1; obtain ⟨c0, c1⟩ := lg_box x1; simp only [HN.out] at c1; have H2 := Lib.hid (And.intro x1 B1); clear x1 B1 s1)
      | fail)
    go_ret
    exact ⟨TellsB.no rfl fun h => by have h1 := h.1; have h2 := HX.out; have h3 := HN.out; omega, H2.out.2⟩
  have hd1 : (decide ((16 : Int) < (n : Int))) = false := decide_eq_false (by omega)
  by_cases h2 : nx < 0
  · have hd2 : (decide (nx < 0)) = true := decide_eq_true h2
    have HX := Lib.hid h2
    clear h1 h2
    go_enter Try.func6, Try.ntmps6
    go_wp2_with (first
      | ((with_reducible refine wpList_box_box _ (o := ⟨some 1, .box _ _, _, _, _, _⟩) rfl _ _ rfl (lgc ⟨nx, l, A, cap⟩) rfl ?_); intro w1 x1 B1 s1; obtain ⟨c0, c1⟩ := lg_box x1; simp only [HN.out] at c1; have H2 := Lib.hid (And.intro x1 B1); clear x1 B1 s1)
      | fail)
    go_ret
    exact ⟨TellsB.no rfl fun h => by have h1 := h.2.1; have h2 := HX.out; omega, H2.out.2⟩
  have hd2 : (decide (nx < 0)) = false := decide_eq_false h2
  by_cases h3 : 1099511627776 < nx
  · have hd3 : (decide (1099511627776 < nx)) = true := decide_eq_true h3
    have HX := Lib.hid h3
    clear h1 h2 h3
    go_enter Try.func6, Try.ntmps6
    go_wp2_with (first
      | ((with_reducible refine wpList_box_box _ (o := ⟨some 1, .box _ _, _, _, _, _⟩) rfl _ _ rfl (lgc ⟨nx, l, A, cap⟩) rfl ?_); intro w1 x1 B1 s1; obtain ⟨c0, c1⟩ := lg_box x1; simp only [HN.out] at c1; have H2 := Lib.hid (And.intro x1 B1); clear x1 B1 s1)
      | fail)
    go_ret
    exact ⟨TellsB.no rfl fun h => by have h1 := h.2.2.1; have h2 := HX.out; omega, H2.out.2⟩
  have hd3 : (decide (1099511627776 < nx)) = false := decide_eq_false h3
  have H0 := Lib.hid (show n ≤ 16 ∧ 0 ≤ nx ∧ nx ≤ 1099511627776 by omega)
  clear h1 h2 h3
  go_enter Try.func6, Try.ntmps6
  go_wp2_with (first
    | ((with_reducible refine wpList_box_box _ (o := ⟨some 1, .box _ _, _, _, _, _⟩) rfl _ _ rfl (lgc ⟨nx, l, A, cap⟩) rfl ?_); intro w1 x1 B1 s1; obtain ⟨c0, c1⟩ := lg_box x1; simp only [HN.out] at c1; have H2 := Lib.hid (And.intro x1 B1); clear x1 B1 s1)
    | fail)
  clear c0 c1 hd1 hd2 hd3
  go_loopw [3] (fun v3 wr => ∃ k : Nat, v3 = .int .i64 k ∧ k ≤ n ∧ Hid ((∀ y ∈ l.take k, RiE nx y.t) ∧ Rise ((tids l).take k)) ∧ Hid (Box wr w.heap.size 24 (lgc ⟨nx, l, A, cap⟩) ∧ Below w.heap.size w wr)) (fun v3 _ => n - (intOf v3).toNat)
  case atStart => exact ⟨0, rfl, by omega, Lib.hid ⟨fun y hy => by simp at hy, rise_nil⟩, H2⟩
  case round =>
    obtain ⟨k, rfl, hk, H4, H3⟩ := hrel
    clear H2
    obtain ⟨c0, c1⟩ := lg_box H3.out.1
    simp only [HN.out] at c1
    by_cases hlt : k < n
    · have hlk : l[k]? = some (l[k]'(by rw [HN.out]; exact hlt)) := List.getElem?_eq_getElem _
      obtain ⟨ad, hA, _⟩ := tn_at HI.out.rd.1 hlk
      obtain rfl : A = some ad := hA
      have HK := Lib.hid hlk
      generalize l[k]'(by rw [HN.out]; exact hlt) = y at *
      have HC : Hid (∀ w', Below w.heap.size w w' → Calls Try.prog 7 #[tagg y] w' fun e w'' => e = .returned (.bool (tr (RiT y.t))) ∧ Below w'.heap.size w' w'') := Lib.hid fun w' hb =>
        rright_any18 y w' (HI.out.each y (List.mem_of_getElem? hlk)).1 (HI.out.each y (List.mem_of_getElem? hlk)).2 (((HI.out.rd.2 y (List.mem_of_getElem? hlk)).below hb).more hb.size)
      clear hlk
      have hki : (k : Int) < (n : Int) := by omega
      cases k with
      | zero =>
        have HW := Lib.hid (fun (h : RiL nx l) => (⟨h.2.2.2.1 y (List.mem_of_getElem? HK.out), True.intro⟩ : RiE nx y.t ∧ True))
        have HS := Lib.hid (fun (h1 : RiT y.t) (h2 : 0 ≤ y.t.id ∧ y.t.id < nx) => (⟨fun v hv => by
          have e : l.take (0 + 1) = [y] := by rw [List.take_add_one, HK.out]; rfl
          rw [e] at hv
          rw [List.mem_singleton.1 hv]
          exact ⟨h1, h2⟩, rise_len _ (by simp; omega)⟩ : (∀ v ∈ l.take (0 + 1), RiE nx v.t) ∧ Rise ((tids l).take (0 + 1))))
        by_cases hR : RiT y.t
        rotate_left
        · rw [tr_no hR] at HC
          have HX := Lib.hid hR
          clear hR
          go_wp2_with fail
          clear c0 c1
          refine wp_region_class (fun w' => Box w' w.heap.size 24 (lgc ⟨nx, l, some ad, cap⟩) ∧ Below w.heap.size w w') (by kernel_rfl) (by kernel_rfl) ⟨H3.out.1.on (Below.refl _ _).drew, H3.out.2.drew⟩ ?_
          intro X hX f hf hg
          have a0 : ∀ x, (f x).cell? ⟨w.heap.size, 0, none⟩ = some (.int .i64 nx) := fun x => (lg_box (hf x).1).1
          have a1 : ∀ x, (f x).cell? ⟨w.heap.size, 1, none⟩ = some (.slice (some ad) n cap) := fun x => (lg_box (hf x).1).2.trans (by rw [← HN.out])
          have e0 : ∀ x, (f x).cell? ad = some (.int .i64 y.t.id) := fun x => tn_zero0 (HI.out.rd.below (hf x).2).1 HK.out
          have e1 : ∀ x, (f x).cell? ⟨ad.block, ad.off + 1, none⟩ = some (.int .i64 y.t.bg) := fun x => tn_zero1 (HI.out.rd.below (hf x).2).1 HK.out
          have e2 : ∀ x, (f x).cell? ⟨ad.block, ad.off + 2, none⟩ = some (.slice y.A y.t.ws.length y.cap) := fun x => tn_zero2 (HI.out.rd.below (hf x).2).1 HK.out
          have Hf := Lib.hid hf
          have Hg := Lib.hid hg
          clear hf hg
          repeat (go_big_quiet_step (first
            | (go_at_call 7; with_reducible (exact calls_class ((HC.out _ (Hf.out _).2)) (fun _ hb => Hg.out _ ⟨(Hf.out _).1.on hb, bthen (Hf.out _).2 hb⟩)))
            | fail))
          refine wpQuiet_nil ?_
          rintro _ ⟨x, rfl⟩
          have HT := Lib.hid (Hf.out x)
          clear a0 a1 e0 e1 e2 Hf Hg
          generalize f x = w5 at HT ⊢
          clear x f hX
          go_wp2
          go_ret
          exact ⟨TellsB.no rfl fun h => HX.out (HW.out h).1.1, HT.out.2⟩
        rw [tr_yes hR] at HC
        have HRi := Lib.hid hR
        clear hR
        by_cases hA : nx ≤ y.t.id
        · have hd1 : (decide (nx ≤ y.t.id)) = true := decide_eq_true hA
          have HX := Lib.hid hA
          clear hA
          go_wp2_with fail
          clear c0 c1
          refine wp_region_class (fun w' => Box w' w.heap.size 24 (lgc ⟨nx, l, some ad, cap⟩) ∧ Below w.heap.size w w') (by kernel_rfl) (by kernel_rfl) ⟨H3.out.1.on (Below.refl _ _).drew, H3.out.2.drew⟩ ?_
          intro X hX f hf hg
          have a0 : ∀ x, (f x).cell? ⟨w.heap.size, 0, none⟩ = some (.int .i64 nx) := fun x => (lg_box (hf x).1).1
          have a1 : ∀ x, (f x).cell? ⟨w.heap.size, 1, none⟩ = some (.slice (some ad) n cap) := fun x => (lg_box (hf x).1).2.trans (by rw [← HN.out])
          have e0 : ∀ x, (f x).cell? ad = some (.int .i64 y.t.id) := fun x => tn_zero0 (HI.out.rd.below (hf x).2).1 HK.out
          have e1 : ∀ x, (f x).cell? ⟨ad.block, ad.off + 1, none⟩ = some (.int .i64 y.t.bg) := fun x => tn_zero1 (HI.out.rd.below (hf x).2).1 HK.out
          have e2 : ∀ x, (f x).cell? ⟨ad.block, ad.off + 2, none⟩ = some (.slice y.A y.t.ws.length y.cap) := fun x => tn_zero2 (HI.out.rd.below (hf x).2).1 HK.out
          have Hf := Lib.hid hf
          have Hg := Lib.hid hg
          clear hf hg
          repeat (go_big_quiet_step (first
            | (go_at_call 7; with_reducible (exact calls_class ((HC.out _ (Hf.out _).2)) (fun _ hb => Hg.out _ ⟨(Hf.out _).1.on hb, bthen (Hf.out _).2 hb⟩)))
            | fail))
          refine wpQuiet_nil ?_
          rintro _ ⟨x, rfl⟩
          have HT := Lib.hid (Hf.out x)
          clear a0 a1 e0 e1 e2 Hf Hg
          generalize f x = w5 at HT ⊢
          clear x f hX
          go_wp2
          go_ret
          exact ⟨TellsB.no rfl fun h => (by have h1 := (HW.out h).1.2.2; have h2 := HX.out; omega), HT.out.2⟩
        have hd1 : (decide (nx ≤ y.t.id)) = false := decide_eq_false hA
        by_cases hB : y.t.id < 0
        · have hd2 : (decide (y.t.id < 0)) = true := decide_eq_true hB
          have HX := Lib.hid hB
          clear hA hB
          go_wp2_with fail
          clear c0 c1
          refine wp_region_class (fun w' => Box w' w.heap.size 24 (lgc ⟨nx, l, some ad, cap⟩) ∧ Below w.heap.size w w') (by kernel_rfl) (by kernel_rfl) ⟨H3.out.1.on (Below.refl _ _).drew, H3.out.2.drew⟩ ?_
          intro X hX f hf hg
          have a0 : ∀ x, (f x).cell? ⟨w.heap.size, 0, none⟩ = some (.int .i64 nx) := fun x => (lg_box (hf x).1).1
          have a1 : ∀ x, (f x).cell? ⟨w.heap.size, 1, none⟩ = some (.slice (some ad) n cap) := fun x => (lg_box (hf x).1).2.trans (by rw [← HN.out])
          have e0 : ∀ x, (f x).cell? ad = some (.int .i64 y.t.id) := fun x => tn_zero0 (HI.out.rd.below (hf x).2).1 HK.out
          have e1 : ∀ x, (f x).cell? ⟨ad.block, ad.off + 1, none⟩ = some (.int .i64 y.t.bg) := fun x => tn_zero1 (HI.out.rd.below (hf x).2).1 HK.out
          have e2 : ∀ x, (f x).cell? ⟨ad.block, ad.off + 2, none⟩ = some (.slice y.A y.t.ws.length y.cap) := fun x => tn_zero2 (HI.out.rd.below (hf x).2).1 HK.out
          have Hf := Lib.hid hf
          have Hg := Lib.hid hg
          clear hf hg
          repeat (go_big_quiet_step (first
            | (go_at_call 7; with_reducible (exact calls_class ((HC.out _ (Hf.out _).2)) (fun _ hb => Hg.out _ ⟨(Hf.out _).1.on hb, bthen (Hf.out _).2 hb⟩)))
            | fail))
          refine wpQuiet_nil ?_
          rintro _ ⟨x, rfl⟩
          have HT := Lib.hid (Hf.out x)
          clear a0 a1 e0 e1 e2 Hf Hg
          generalize f x = w5 at HT ⊢
          clear x f hX
          go_wp2
          go_ret
          exact ⟨TellsB.no rfl fun h => (by have h1 := (HW.out h).1.2.1; have h2 := HX.out; omega), HT.out.2⟩
        have hd2 : (decide (y.t.id < 0)) = false := decide_eq_false hB
        have HAB := Lib.hid (And.intro hA hB)
        clear hA hB
        go_wp2_with fail
        clear c0 c1
        refine wp_region_class (fun w' => Box w' w.heap.size 24 (lgc ⟨nx, l, some ad, cap⟩) ∧ Below w.heap.size w w') (by kernel_rfl) (by kernel_rfl) ⟨H3.out.1.on (Below.refl _ _).drew, H3.out.2.drew⟩ ?_
        intro X hX f hf hg
        have a0 : ∀ x, (f x).cell? ⟨w.heap.size, 0, none⟩ = some (.int .i64 nx) := fun x => (lg_box (hf x).1).1
        have a1 : ∀ x, (f x).cell? ⟨w.heap.size, 1, none⟩ = some (.slice (some ad) n cap) := fun x => (lg_box (hf x).1).2.trans (by rw [← HN.out])
        have e0 : ∀ x, (f x).cell? ad = some (.int .i64 y.t.id) := fun x => tn_zero0 (HI.out.rd.below (hf x).2).1 HK.out
        have e1 : ∀ x, (f x).cell? ⟨ad.block, ad.off + 1, none⟩ = some (.int .i64 y.t.bg) := fun x => tn_zero1 (HI.out.rd.below (hf x).2).1 HK.out
        have e2 : ∀ x, (f x).cell? ⟨ad.block, ad.off + 2, none⟩ = some (.slice y.A y.t.ws.length y.cap) := fun x => tn_zero2 (HI.out.rd.below (hf x).2).1 HK.out
        have Hf := Lib.hid hf
        have Hg := Lib.hid hg
        clear hf hg
        repeat (go_big_quiet_step (first
          | (go_at_call 7; with_reducible (exact calls_class ((HC.out _ (Hf.out _).2)) (fun _ hb => Hg.out _ ⟨(Hf.out _).1.on hb, bthen (Hf.out _).2 hb⟩)))
          | fail))
        refine wpQuiet_nil ?_
        rintro _ ⟨x, rfl⟩
        have HT := Lib.hid (Hf.out x)
        clear a0 a1 e0 e1 e2 Hf Hg
        generalize f x = w5 at HT ⊢
        clear x f hX
        go_wp2
        go_roundw
        case rel => exact ⟨0 + 1, by go_num, by omega, Lib.hid (HS.out HRi.out (by have := HAB.out; omega)), HT⟩
        case measure => first | (simp [intOf]; done) | (simp [intOf]; omega)
      | succ j =>
        have hlj : l[j]? = some (l[j]'(by rw [HN.out]; omega)) := List.getElem?_eq_getElem _
        have HJ := Lib.hid hlj
        generalize l[j]'(by rw [HN.out]; omega) = z at *
        clear hlj
        have HW := Lib.hid (fun (h : RiL nx l) => (⟨h.2.2.2.1 y (List.mem_of_getElem? HK.out), by
          have h2 := List.pairwise_iff_getElem.1 h.2.2.2.2 j (j + 1) (List.getElem?_eq_some_iff.1 (tids_at HJ.out)).1 (List.getElem?_eq_some_iff.1 (tids_at HK.out)).1 (by omega)
          rw [(List.getElem?_eq_some_iff.1 (tids_at HJ.out)).2, (List.getElem?_eq_some_iff.1 (tids_at HK.out)).2] at h2
          exact h2⟩ : RiE nx y.t ∧ z.t.id < y.t.id))
        have HS := Lib.hid (fun (h1 : RiT y.t) (h2 : 0 ≤ y.t.id ∧ y.t.id < nx) (h3 : z.t.id < y.t.id) => (⟨fun v hv => by
          rw [List.take_add_one, HK.out] at hv
          rcases List.mem_append.1 hv with hv | hv
          · exact H4.out.1 v hv
          · have e : v = y := by simpa using hv
            rw [e]
            exact ⟨h1, h2⟩, (rise_more H4.out.2 (tids_at HJ.out) (tids_at HK.out)).2 h3⟩ : (∀ v ∈ l.take (j + 1 + 1), RiE nx v.t) ∧ Rise ((tids l).take (j + 1 + 1))))
        have hj0 : (0 : Int) ≤ (j : Int) + 1 := by omega
        have hj1 : (0 : Int) < (j : Int) + 1 := by omega
        have hjn : (j : Int) < (n : Int) := by omega
        have hjn1 : (j : Int) + 1 < (n : Int) := by omega
        by_cases hR : RiT y.t
        rotate_left
        · rw [tr_no hR] at HC
          have HX := Lib.hid hR
          clear hR
          go_wp2_with fail
          clear c0 c1
          refine wp_region_class (fun w' => Box w' w.heap.size 24 (lgc ⟨nx, l, some ad, cap⟩) ∧ Below w.heap.size w w') (by kernel_rfl) (by kernel_rfl) ⟨H3.out.1.on (Below.refl _ _).drew, H3.out.2.drew⟩ ?_
          intro X hX f hf hg
          have a0 : ∀ x, (f x).cell? ⟨w.heap.size, 0, none⟩ = some (.int .i64 nx) := fun x => (lg_box (hf x).1).1
          have a1 : ∀ x, (f x).cell? ⟨w.heap.size, 1, none⟩ = some (.slice (some ad) n cap) := fun x => (lg_box (hf x).1).2.trans (by rw [← HN.out])
          have e0 : ∀ x, (f x).cell? (ad.add ((j + 1) * 3)) = some (.int .i64 y.t.id) := fun x => (tn_some (HI.out.rd.below (hf x).2).1 HK.out).1
          have e1 : ∀ x, (f x).cell? ⟨(ad.add ((j + 1) * 3)).block, (ad.add ((j + 1) * 3)).off + 1, none⟩ = some (.int .i64 y.t.bg) := fun x => (tn_some (HI.out.rd.below (hf x).2).1 HK.out).2.1
          have e2 : ∀ x, (f x).cell? ⟨(ad.add ((j + 1) * 3)).block, (ad.add ((j + 1) * 3)).off + 2, none⟩ = some (.slice y.A y.t.ws.length y.cap) := fun x => (tn_some (HI.out.rd.below (hf x).2).1 HK.out).2.2
          have g0 : ∀ x, (f x).cell? (ad.add (j * 3)) = some (.int .i64 z.t.id) := fun x => (tn_some (HI.out.rd.below (hf x).2).1 HJ.out).1
          have Hf := Lib.hid hf
          have Hg := Lib.hid hg
          clear hf hg
          repeat (go_big_quiet_step (first
            | (go_at_call 7; with_reducible (exact calls_class ((HC.out _ (Hf.out _).2)) (fun _ hb => Hg.out _ ⟨(Hf.out _).1.on hb, bthen (Hf.out _).2 hb⟩)))
            | fail))
          refine wpQuiet_nil ?_
          rintro _ ⟨x, rfl⟩
          have HT := Lib.hid (Hf.out x)
          clear a0 a1 e0 e1 e2 g0 Hf Hg
          generalize f x = w5 at HT ⊢
          clear x f hX
          go_wp2
          go_ret
          exact ⟨TellsB.no rfl fun h => HX.out (HW.out h).1.1, HT.out.2⟩
        rw [tr_yes hR] at HC
        have HRi := Lib.hid hR
        clear hR
        by_cases hA : nx ≤ y.t.id
        · have hd1 : (decide (nx ≤ y.t.id)) = true := decide_eq_true hA
          have HX := Lib.hid hA
          clear hA
          go_wp2_with fail
          clear c0 c1
          refine wp_region_class (fun w' => Box w' w.heap.size 24 (lgc ⟨nx, l, some ad, cap⟩) ∧ Below w.heap.size w w') (by kernel_rfl) (by kernel_rfl) ⟨H3.out.1.on (Below.refl _ _).drew, H3.out.2.drew⟩ ?_
          intro X hX f hf hg
          have a0 : ∀ x, (f x).cell? ⟨w.heap.size, 0, none⟩ = some (.int .i64 nx) := fun x => (lg_box (hf x).1).1
          have a1 : ∀ x, (f x).cell? ⟨w.heap.size, 1, none⟩ = some (.slice (some ad) n cap) := fun x => (lg_box (hf x).1).2.trans (by rw [← HN.out])
          have e0 : ∀ x, (f x).cell? (ad.add ((j + 1) * 3)) = some (.int .i64 y.t.id) := fun x => (tn_some (HI.out.rd.below (hf x).2).1 HK.out).1
          have e1 : ∀ x, (f x).cell? ⟨(ad.add ((j + 1) * 3)).block, (ad.add ((j + 1) * 3)).off + 1, none⟩ = some (.int .i64 y.t.bg) := fun x => (tn_some (HI.out.rd.below (hf x).2).1 HK.out).2.1
          have e2 : ∀ x, (f x).cell? ⟨(ad.add ((j + 1) * 3)).block, (ad.add ((j + 1) * 3)).off + 2, none⟩ = some (.slice y.A y.t.ws.length y.cap) := fun x => (tn_some (HI.out.rd.below (hf x).2).1 HK.out).2.2
          have g0 : ∀ x, (f x).cell? (ad.add (j * 3)) = some (.int .i64 z.t.id) := fun x => (tn_some (HI.out.rd.below (hf x).2).1 HJ.out).1
          have Hf := Lib.hid hf
          have Hg := Lib.hid hg
          clear hf hg
          repeat (go_big_quiet_step (first
            | (go_at_call 7; with_reducible (exact calls_class ((HC.out _ (Hf.out _).2)) (fun _ hb => Hg.out _ ⟨(Hf.out _).1.on hb, bthen (Hf.out _).2 hb⟩)))
            | fail))
          refine wpQuiet_nil ?_
          rintro _ ⟨x, rfl⟩
          have HT := Lib.hid (Hf.out x)
          clear a0 a1 e0 e1 e2 g0 Hf Hg
          generalize f x = w5 at HT ⊢
          clear x f hX
          go_wp2
          go_ret
          exact ⟨TellsB.no rfl fun h => (by have h1 := (HW.out h).1.2.2; have h2 := HX.out; omega), HT.out.2⟩
        have hd1 : (decide (nx ≤ y.t.id)) = false := decide_eq_false hA
        by_cases hB : y.t.id < 0
        · have hd2 : (decide (y.t.id < 0)) = true := decide_eq_true hB
          have HX := Lib.hid hB
          clear hA hB
          go_wp2_with fail
          clear c0 c1
          refine wp_region_class (fun w' => Box w' w.heap.size 24 (lgc ⟨nx, l, some ad, cap⟩) ∧ Below w.heap.size w w') (by kernel_rfl) (by kernel_rfl) ⟨H3.out.1.on (Below.refl _ _).drew, H3.out.2.drew⟩ ?_
          intro X hX f hf hg
          have a0 : ∀ x, (f x).cell? ⟨w.heap.size, 0, none⟩ = some (.int .i64 nx) := fun x => (lg_box (hf x).1).1
          have a1 : ∀ x, (f x).cell? ⟨w.heap.size, 1, none⟩ = some (.slice (some ad) n cap) := fun x => (lg_box (hf x).1).2.trans (by rw [← HN.out])
          have e0 : ∀ x, (f x).cell? (ad.add ((j + 1) * 3)) = some (.int .i64 y.t.id) := fun x => (tn_some (HI.out.rd.below (hf x).2).1 HK.out).1
          have e1 : ∀ x, (f x).cell? ⟨(ad.add ((j + 1) * 3)).block, (ad.add ((j + 1) * 3)).off + 1, none⟩ = some (.int .i64 y.t.bg) := fun x => (tn_some (HI.out.rd.below (hf x).2).1 HK.out).2.1
          have e2 : ∀ x, (f x).cell? ⟨(ad.add ((j + 1) * 3)).block, (ad.add ((j + 1) * 3)).off + 2, none⟩ = some (.slice y.A y.t.ws.length y.cap) := fun x => (tn_some (HI.out.rd.below (hf x).2).1 HK.out).2.2
          have g0 : ∀ x, (f x).cell? (ad.add (j * 3)) = some (.int .i64 z.t.id) := fun x => (tn_some (HI.out.rd.below (hf x).2).1 HJ.out).1
          have Hf := Lib.hid hf
          have Hg := Lib.hid hg
          clear hf hg
          repeat (go_big_quiet_step (first
            | (go_at_call 7; with_reducible (exact calls_class ((HC.out _ (Hf.out _).2)) (fun _ hb => Hg.out _ ⟨(Hf.out _).1.on hb, bthen (Hf.out _).2 hb⟩)))
            | fail))
          refine wpQuiet_nil ?_
          rintro _ ⟨x, rfl⟩
          have HT := Lib.hid (Hf.out x)
          clear a0 a1 e0 e1 e2 g0 Hf Hg
          generalize f x = w5 at HT ⊢
          clear x f hX
          go_wp2
          go_ret
          exact ⟨TellsB.no rfl fun h => (by have h1 := (HW.out h).1.2.1; have h2 := HX.out; omega), HT.out.2⟩
        have hd2 : (decide (y.t.id < 0)) = false := decide_eq_false hB
        have HAB := Lib.hid (And.intro hA hB)
        clear hA hB
        by_cases hD : y.t.id ≤ z.t.id
        · have hd3 : (decide (y.t.id ≤ z.t.id)) = true := decide_eq_true hD
          have HX := Lib.hid hD
          clear hD
          go_wp2_with fail
          clear c0 c1
          refine wp_region_class (fun w' => Box w' w.heap.size 24 (lgc ⟨nx, l, some ad, cap⟩) ∧ Below w.heap.size w w') (by kernel_rfl) (by kernel_rfl) ⟨H3.out.1.on (Below.refl _ _).drew, H3.out.2.drew⟩ ?_
          intro X hX f hf hg
          have a0 : ∀ x, (f x).cell? ⟨w.heap.size, 0, none⟩ = some (.int .i64 nx) := fun x => (lg_box (hf x).1).1
          have a1 : ∀ x, (f x).cell? ⟨w.heap.size, 1, none⟩ = some (.slice (some ad) n cap) := fun x => (lg_box (hf x).1).2.trans (by rw [← HN.out])
          have e0 : ∀ x, (f x).cell? (ad.add ((j + 1) * 3)) = some (.int .i64 y.t.id) := fun x => (tn_some (HI.out.rd.below (hf x).2).1 HK.out).1
          have e1 : ∀ x, (f x).cell? ⟨(ad.add ((j + 1) * 3)).block, (ad.add ((j + 1) * 3)).off + 1, none⟩ = some (.int .i64 y.t.bg) := fun x => (tn_some (HI.out.rd.below (hf x).2).1 HK.out).2.1
          have e2 : ∀ x, (f x).cell? ⟨(ad.add ((j + 1) * 3)).block, (ad.add ((j + 1) * 3)).off + 2, none⟩ = some (.slice y.A y.t.ws.length y.cap) := fun x => (tn_some (HI.out.rd.below (hf x).2).1 HK.out).2.2
          have g0 : ∀ x, (f x).cell? (ad.add (j * 3)) = some (.int .i64 z.t.id) := fun x => (tn_some (HI.out.rd.below (hf x).2).1 HJ.out).1
          have Hf := Lib.hid hf
          have Hg := Lib.hid hg
          clear hf hg
          repeat (go_big_quiet_step (first
            | (go_at_call 7; with_reducible (exact calls_class ((HC.out _ (Hf.out _).2)) (fun _ hb => Hg.out _ ⟨(Hf.out _).1.on hb, bthen (Hf.out _).2 hb⟩)))
            | fail))
          refine wpQuiet_nil ?_
          rintro _ ⟨x, rfl⟩
          have HT := Lib.hid (Hf.out x)
          clear a0 a1 e0 e1 e2 g0 Hf Hg
          generalize f x = w5 at HT ⊢
          clear x f hX
          go_wp2
          go_ret
          exact ⟨TellsB.no rfl fun h => (by have h1 := (HW.out h).2; have h2 := HX.out; omega), HT.out.2⟩
        have hd3 : (decide (y.t.id ≤ z.t.id)) = false := decide_eq_false hD
        have HX := Lib.hid hD
        clear hD
        go_wp2_with fail
        clear c0 c1
        refine wp_region_class (fun w' => Box w' w.heap.size 24 (lgc ⟨nx, l, some ad, cap⟩) ∧ Below w.heap.size w w') (by kernel_rfl) (by kernel_rfl) ⟨H3.out.1.on (Below.refl _ _).drew, H3.out.2.drew⟩ ?_
        intro X hX f hf hg
        have a0 : ∀ x, (f x).cell? ⟨w.heap.size, 0, none⟩ = some (.int .i64 nx) := fun x => (lg_box (hf x).1).1
        have a1 : ∀ x, (f x).cell? ⟨w.heap.size, 1, none⟩ = some (.slice (some ad) n cap) := fun x => (lg_box (hf x).1).2.trans (by rw [← HN.out])
        have e0 : ∀ x, (f x).cell? (ad.add ((j + 1) * 3)) = some (.int .i64 y.t.id) := fun x => (tn_some (HI.out.rd.below (hf x).2).1 HK.out).1
        have e1 : ∀ x, (f x).cell? ⟨(ad.add ((j + 1) * 3)).block, (ad.add ((j + 1) * 3)).off + 1, none⟩ = some (.int .i64 y.t.bg) := fun x => (tn_some (HI.out.rd.below (hf x).2).1 HK.out).2.1
        have e2 : ∀ x, (f x).cell? ⟨(ad.add ((j + 1) * 3)).block, (ad.add ((j + 1) * 3)).off + 2, none⟩ = some (.slice y.A y.t.ws.length y.cap) := fun x => (tn_some (HI.out.rd.below (hf x).2).1 HK.out).2.2
        have g0 : ∀ x, (f x).cell? (ad.add (j * 3)) = some (.int .i64 z.t.id) := fun x => (tn_some (HI.out.rd.below (hf x).2).1 HJ.out).1
        have Hf := Lib.hid hf
        have Hg := Lib.hid hg
        clear hf hg
        repeat (go_big_quiet_step (first
          | (go_at_call 7; with_reducible (exact calls_class ((HC.out _ (Hf.out _).2)) (fun _ hb => Hg.out _ ⟨(Hf.out _).1.on hb, bthen (Hf.out _).2 hb⟩)))
          | fail))
        refine wpQuiet_nil ?_
        rintro _ ⟨x, rfl⟩
        have HT := Lib.hid (Hf.out x)
        clear a0 a1 e0 e1 e2 g0 Hf Hg
        generalize f x = w5 at HT ⊢
        clear x f hX
        go_wp2
        go_roundw
        case rel => exact ⟨j + 1 + 1, by go_num, by omega, Lib.hid (HS.out HRi.out (by have := HAB.out; omega) (by have := HX.out; omega)), HT⟩
        case measure => first | (simp [intOf]; done) | (simp [intOf]; omega)
    · obtain rfl : n = k := by omega
      have HE := Lib.hid (show RiL nx l by
        have h := H4.out
        rw [List.take_of_length_le (by rw [HN.out]; exact Nat.le_refl _), List.take_of_length_le (by rw [tids_length, HN.out]; exact Nat.le_refl _)] at h
        exact ⟨by rw [HN.out]; exact H0.out.1, H0.out.2.1, H0.out.2.2, h.1, h.2⟩)
      go_wp2
      go_ret
      exact ⟨TellsB.yes rfl HE.out, H3.out.2⟩
theorem rrightall_is (x : Lv) (w : World) (hx : LRaw w x) :
    Calls Try.prog 6 #[lval x] w fun e w' => e = .returned (.bool (tr (RiL x.nx x.l))) ∧ Below w.heap.size w w' :=
  (rrightall_any x w hx).mono fun e w' h => ⟨h.1.is, h.2⟩
theorem RiL.inn {w : World} {x : Lv} (h : RiL x.nx x.l) (hr : LRaw w x) : LIn w x := ⟨Nat.le_trans h.1 (by decide), hr.rd, fun y hy => ⟨Nat.le_trans (h.2.2.2.1 y hy).1.2 (by decide), (hr.each y hy).2⟩⟩
end Go.Proofs.Ytiljjgohmjimdaa

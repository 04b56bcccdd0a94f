/-
  The walk of the law PageOnly.
-/
import Derived.Test.YtlpkmggboihdjaaLfG
import Derived.IntWalk
namespace Go.Proofs.Ytlpkmggboihdjaa
open Go.RowKit Word Crc Leaf
set_option linter.unusedVariables false

theorem lfread_ok {p : List Int} (h : (readS p).2 = 0) : Ok (readS p).1 ∧ layL (readS p).1 = p := by
  unfold readS at h ⊢
  split at h
  · exact absurd h (by decide)
  · rename_i h1
    rw [if_neg h1]
    split at h
    · rename_i h2
      rw [if_pos h2]
      exact ⟨of_decide_eq_true h2.1, h2.2⟩
    · exact absurd h (by decide)
theorem lfread_err (p : List Int) : (readS p).2 = 0 ∨ (readS p).2 = 7 ∨ (readS p).2 = 8 := by
  unfold readS
  split
  · exact .inr (.inr rfl)
  · split
    · exact .inl rfl
    · exact .inr (.inl rfl)
/-- a leaf with one place turned over -/
def overL (l : Lf) (k : Nat) : Lf := { l with places := l.places.set k (4294967295 - l.places.getD k 0) }
theorem overL_in {l : Lf} (h : In l) (k : Nat) : In (overL l k) := by simpa [In, overL] using h
theorem overL_ok {l : Lf} (h : Ok l) (hi : In l) {k : Nat} (hk : k < 10) : Ok (overL l k) := by
  have := h.2.2 _ (getD_mem (show k < l.places.length by unfold In at hi; omega))
  exact ⟨h.1, h.2.1, narrow_set h.2.2 k (by omega)⟩

theorem ThreeBx.set {w W : World} {T U V : TypeId} {cs ds es : List Value} {b : Nat} (h : ThreeBx w W T cs U ds b V es) (k : Nat) (v : Value) : ThreeBx w (W.setCell ⟨b, k, none⟩ v) T cs U ds b V (es.set k v) := by
  obtain ⟨⟨h1, h2, h3, h4⟩, h5, h6⟩ := h
  have e : ∀ x, x ≠ b → (W.setCell ⟨b, k, none⟩ v).heap[x]? = W.heap[x]? := fun x hx => heap_setCell_other _ _ _ _ hx
  exact ⟨⟨h1.same (e _ (by omega)), h2.same (e _ (by omega)), h3.setCell (by show w.heap.size ≤ b; omega) _, by simpa [World.setCell] using h4⟩, h5.set k v, h6⟩

set_option maxRecDepth 100000 in
set_option maxHeartbeats 4000000 in
/-- behind the reading: the leaf, with a place turned over -/
theorem lflaw_only (p : List Int) (l : Lf) (at_ : Int) (w : World) (hl : p.length = 64) (hp : octets p) (hi : In l) (ha : 0 ≤ at_ ∧ at_ ≤ 255) :
    Calls Try.prog 7 #[.agg (bs p).toArray, .agg (lcs l).toArray, .int .u8 at_] w fun e w' => e = .returned (.bool true) ∧ Below w.heap.size w w' := by
  obtain ⟨m, hm, hsz⟩ := big_size (P := Try.prog) (t := 28) (s := 64) (by kernel_rfl)
  obtain ⟨mr, hmr, hszr⟩ := big_size (P := Try.prog) (t := 24) (s := 12) (by kernel_rfl)
  have hm0 : ¬ m = 0 := by omega
  have hmr0 : ¬ mr = 0 := by omega
  obtain ⟨k, hk, hk1⟩ : ∃ k : Nat, at_ % 10 = k ∧ k < 10 := ⟨(at_ % 10).toNat, by omega, by omega⟩
  have ha0 := ha.1
  have ha1 := ha.2
  have HP := Lib.hid (And.intro hl hp)
  have HI := Lib.hid hi
  have HM := Lib.hid (And.intro hm hmr)
  have HK := Lib.hid (And.intro hk hk1)
  have LP := Lib.hid fun (W : World) (g : Nat) (h : Box W g 28 (bs p)) => big_load0 Try.prog g 0 (bs p) m (by rw [bs_length, HP.out.1, HM.out.1]) W h.range0
  have LD := Lib.hid fun (W : World) (g : Nat) (c : Lf) (hc : In c) (h : Box W g 24 (lcs c)) => big_load0 Try.prog g 0 (lcs c) mr (by rw [lcs_length hc, HM.out.2]) W h.range0
  clear ha hm hmr hl hp hi hk hk1
  go_enter Try.func7, Try.ntmps7
  go_wp2_with (first
    | ((with_reducible refine wpList_pg_box (o := ⟨some 3, .box _ _, _, _, _, _⟩) rfl _ rfl p rfl ?_); intro w1 x0 hB1 hs1)
    | ((with_reducible refine wpList_lf_box (o := ⟨some 4, .box _ _, _, _, _, _⟩) rfl _ rfl l rfl ?_); intro w2 x1 hB2 hs2; have L := TwoBx.start x0 hB1 hs1 x1 hB2 hs2; rw [hs1]; clear hs1 hs2 x0 x1 hB1 hB2)
    | fail)
  refine (awake7_any _).mono ?_
  rintro e w3 ⟨rfl, hb3⟩
  have HL := Lib.hid (L.on hb3)
  clear hb3 L
  have lp := LP.out _ _ HL.out.1
  go_wp2_with fail
  refine (lfread_any p _ HP.out.1 HP.out.2).mono ?_
  rintro e w5 ⟨rfl, hb5⟩
  replace HL := Lib.hid (HL.out.on hb5)
  clear hb5 lp
  have HI2 := Lib.hid (read_in p)
  have HK2 := Lib.hid fun h => lfread_ok (p := p) h
  have HE := Lib.hid (lfread_err p)
  generalize readS p = rs at HI2 HK2 HE ⊢
  obtain ⟨r, er⟩ := rs
  simp only at HI2 HK2 HE ⊢
  go_wp2_with (first
    | ((with_reducible refine wpList_lf_alloc (o := ⟨some 7, .alloc _, _, _, _, _⟩) rfl rfl ?_); intro w6 x6 hB6 _)
    | ((with_reducible refine wpList_lf_store (o := ⟨none, .store _ _ _, _, _, _, _⟩) rfl _ _ rfl w5.heap.size r lf0 HI2.out lf0_in rfl rfl x6 ?_); intro w7 x7 hg7 _; have HL3 := Lib.hid (ThreeBx.made HL.out (below_stored hB6 hg7 hB6.size (Nat.le_refl _)) x7))
    | fail)
  clear x6 hB6 x7 hg7 HL
  generalize w5.heap.size = bx at *
  rcases HE.out with rfl | rfl | rfl
  · obtain ⟨hok, hlay⟩ := HK2.out rfl
    have QR := Lib.hid fun w' => lfright_any r w' HI2.out
    have QY := Lib.hid fun w' => lflay_any r w' hok HI2.out
    rw [show okB r = true from decide_eq_true hok] at QR
    rw [hlay] at QY
    have hq := fun w' => pg_equal w' p p HP.out.1 HP.out.1
    rw [beq_self_eq_true] at hq
    have hgd := pg_guard
    clear hok hlay
    refine wp_region_class (fun w' => ThreeBx w w' 28 (bs p) 24 (lcs l) bx 24 (lcs r)) (by kernel_rfl) (by kernel_rfl) HL3.out.drew ?_
    intro X hX f hf hg
    have cp := fun x => LP.out (f x) _ (hf x).1.1
    have cr := fun x => LD.out (f x) _ r HI2.out (hf x).2.1
    have Hf := Lib.hid hf
    have Hg := Lib.hid hg
    clear hf hg HL3 HK2 HE
    generalize hPq : bs p = Pq at *
    generalize hRr : lcs r = Rr at *
    have HPR := Lib.hid (And.intro hPq hRr)
    clear hPq hRr
    try simp only [Act.put, List.setIfInBounds_toArray, List.set_cons_succ, List.set_cons_zero]
    repeat (go_big_quiet_step (first
      | (go_at_call 9; with_reducible exact calls_class (QR.out _) (fun _ hb => Hg.out _ ((Hf.out _).on hb)))
      | (go_at_call 11; with_reducible exact calls_class (QY.out _) (fun _ hb => Hg.out _ ((Hf.out _).on hb)))))
    refine wpQuiet_nil ?_
    rintro _ ⟨x, rfl⟩
    have HL := Lib.hid (Hf.out x).1
    clear cp cr Hf Hg hq hgd QR QY
    generalize f x = W at HL ⊢
    clear hX
    have ll := LD.out _ _ l HI.out HL.out.2.1
    have QL := Lib.hid fun w' => lfright_any l w' HI.out
    go_wp2_with fail
    refine (QL.out _).mono ?_
    rintro e w8 ⟨rfl, hb8⟩
    replace HL := Lib.hid (HL.out.on hb8)
    clear hb8 ll
    have ll := LD.out _ _ l HI.out HL.out.2.1
    cases hok : okB l with
    | false =>
      go_wp2
      go_ret
      exact ⟨rfl, HL.out.2.2.1⟩
    | true =>
      have hk : Ok l := of_decide_eq_true hok
      have HY := Lib.hid fun w' => lflay_any l w' hk HI.out
      have HYm := Lib.hid fun w' => lflay_any (overL l k) w' (overL_ok hk HI.out HK.out.2) (overL_in HI.out k)
      have hr := fun w' => equal_leaf w' (overL l k) l (overL_in HI.out k) HI.out
      have hq := fun w' => pg_equal w' (layL (overL l k)) (layL l) (layL_length _ (overL_in HI.out k)) (layL_length _ HI.out)
      have hg1 := pg_guard
      have hg2 := guard_leaf
      have HE := Lib.hid (show lfEq (overL l k) l = false → (layL (overL l k) == layL l) = false from fun h => by
        rw [beq_eq_false_iff_ne]
        intro e
        have := lay_inj (overL_ok hk HI.out HK.out.2) hk (overL_in HI.out k) HI.out e
        rw [(lfEq_iff _ _).2 this] at h
        cases h)
      have hpl := hk.2.2 _ (getD_mem (show k < l.places.length by have := HK.out.2; rw [HI.out]; exact this))
      have hp0 := hpl.1
      have hp1 := hpl.2
      have HKk := HK
      have hkk := HK.out.2
      have hke := HK.out.1
      clear hok hk hpl QL
      go_wp2_with (first
        | ((with_reducible refine wpList_lf_alloc (o := ⟨some 9, .alloc _, _, _, _, _⟩) rfl rfl ?_); intro w9 x9 hB9 _)
        | ((with_reducible refine wpList_lf_store (o := ⟨none, .store 24 _ _, _, _, _, _⟩) rfl _ _ rfl w8.heap.size l lf0 HI.out lf0_in rfl rfl x9 ?_); intro w10 x10 hg10 _; have HL4 := Lib.hid (ThreeBx.made HL.out (below_stored hB9 hg10 hB9.size (Nat.le_refl _)) x10); clear x9 hB9 x10 hg10; have c9 := HL4.out.2.1.lfPlace (k := k) (by have := HI.out; unfold In at this; omega); have f9 := HL4.out.2.1.frozen (2 + k); generalize hx : l.places.getD k 0 = x at c9 hp0 hp1; have HX := Lib.hid hx; clear hx)
        | fail)
      have L5 := HL4.out.set (2 + k) (.int .i64 (4294967295 - x))
      rw [lcs_set, ← HX.out] at L5
      change ThreeBx _ _ _ _ _ _ _ _ (lcs (overL l k)) at L5
      rw [HX.out] at L5
      clear HL4 c9 f9 HX HL ll
      generalize w8.heap.size = b9 at *
      generalize w10.setCell _ _ = W5 at L5 ⊢
      cases heq : lfEq (overL l k) l with
      | true =>
        rw [heq] at hr
        refine wp_region_class (fun w' => ThreeBx w w' 28 Pq 24 (lcs l) b9 24 (lcs (overL l k))) (by kernel_rfl) (by kernel_rfl) L5.drew ?_
        intro X hX f hf hg
        have cl := fun x => LD.out (f x) _ l HI.out (hf x).1.2.1
        have cm := fun x => LD.out (f x) _ _ (overL_in HI.out k) (hf x).2.1
        have Hf := Lib.hid hf
        have Hg := Lib.hid hg
        clear hf hg L5 LD LP hq
        generalize lcs l = Rl at *
        generalize lcs (overL l k) = Rm at *
        try simp only [Act.put, List.setIfInBounds_toArray, List.set_cons_succ, List.set_cons_zero]
        repeat (go_big_quiet_step (fail))
        refine wpQuiet_nil ?_
        rintro _ ⟨x, rfl⟩
        have HB := Lib.hid (Hf.out x).1.2.2.1
        clear cl cm Hf Hg hr
        generalize f x = W at HB ⊢
        go_wp2
        go_ret
        exact ⟨rfl, HB.out⟩
      | false =>
        have hne := HE.out heq
        rw [heq] at hr
        rw [hne] at hq
        refine wp_region_class (fun w' => ThreeBx w w' 28 Pq 24 (lcs l) b9 24 (lcs (overL l k))) (by kernel_rfl) (by kernel_rfl) L5.drew ?_
        intro X hX f hf hg
        have cl := fun x => LD.out (f x) _ l HI.out (hf x).1.2.1
        have cm := fun x => LD.out (f x) _ _ (overL_in HI.out k) (hf x).2.1
        have Hf := Lib.hid hf
        have Hg := Lib.hid hg
        clear hf hg L5 LD LP hne heq
        generalize lcs l = Rl at *
        generalize lcs (overL l k) = Rm at *
        generalize bs (layL l) = Pl at *
        generalize bs (layL (overL l k)) = Pm at *
        try simp only [Act.put, List.setIfInBounds_toArray, List.set_cons_succ, List.set_cons_zero]
        repeat (go_big_quiet_step ((go_at_call 11; (first | with_reducible exact calls_class (HY.out _) (fun _ hb => Hg.out _ ((Hf.out _).on hb)) | with_reducible exact calls_class (HYm.out _) (fun _ hb => Hg.out _ ((Hf.out _).on hb))))))
        refine wpQuiet_nil ?_
        rintro _ ⟨x, rfl⟩
        have HB := Lib.hid (Hf.out x).1.2.2.1
        clear cl cm Hf Hg hr hq
        generalize f x = W at HB ⊢
        go_wp2
        go_ret
        exact ⟨rfl, HB.out⟩
  · refine wp_region_class (fun w' => ThreeBx w w' 28 (bs p) 24 (lcs l) bx 24 (lcs r)) (by kernel_rfl) (by kernel_rfl) HL3.out.drew ?_
    intro X hX f hf hg
    have cp := fun x => LP.out (f x) _ (hf x).1.1
    have cr := fun x => LD.out (f x) _ r HI2.out (hf x).2.1
    have Hf := Lib.hid hf
    have Hg := Lib.hid hg
    clear hf hg HL3 HK2 HE
    generalize hPq : bs p = Pq at *
    generalize hRr : lcs r = Rr at *
    have HPR := Lib.hid (And.intro hPq hRr)
    clear hPq hRr
    try simp only [Act.put, List.setIfInBounds_toArray, List.set_cons_succ, List.set_cons_zero]
    repeat (go_big_quiet_step (fail))
    refine wpQuiet_nil ?_
    rintro _ ⟨x, rfl⟩
    have HL := Lib.hid (Hf.out x).1
    clear cp cr Hf Hg 
    generalize f x = W at HL ⊢
    clear hX
    have ll := LD.out _ _ l HI.out HL.out.2.1
    have QL := Lib.hid fun w' => lfright_any l w' HI.out
    go_wp2_with fail
    refine (QL.out _).mono ?_
    rintro e w8 ⟨rfl, hb8⟩
    replace HL := Lib.hid (HL.out.on hb8)
    clear hb8 ll
    have ll := LD.out _ _ l HI.out HL.out.2.1
    cases hok : okB l with
    | false =>
      go_wp2
      go_ret
      exact ⟨rfl, HL.out.2.2.1⟩
    | true =>
      have hk : Ok l := of_decide_eq_true hok
      have HY := Lib.hid fun w' => lflay_any l w' hk HI.out
      have HYm := Lib.hid fun w' => lflay_any (overL l k) w' (overL_ok hk HI.out HK.out.2) (overL_in HI.out k)
      have hr := fun w' => equal_leaf w' (overL l k) l (overL_in HI.out k) HI.out
      have hq := fun w' => pg_equal w' (layL (overL l k)) (layL l) (layL_length _ (overL_in HI.out k)) (layL_length _ HI.out)
      have hg1 := pg_guard
      have hg2 := guard_leaf
      have HE := Lib.hid (show lfEq (overL l k) l = false → (layL (overL l k) == layL l) = false from fun h => by
        rw [beq_eq_false_iff_ne]
        intro e
        have := lay_inj (overL_ok hk HI.out HK.out.2) hk (overL_in HI.out k) HI.out e
        rw [(lfEq_iff _ _).2 this] at h
        cases h)
      have hpl := hk.2.2 _ (getD_mem (show k < l.places.length by have := HK.out.2; rw [HI.out]; exact this))
      have hp0 := hpl.1
      have hp1 := hpl.2
      have HKk := HK
      have hkk := HK.out.2
      have hke := HK.out.1
      clear hok hk hpl QL
      go_wp2_with (first
        | ((with_reducible refine wpList_lf_alloc (o := ⟨some 9, .alloc _, _, _, _, _⟩) rfl rfl ?_); intro w9 x9 hB9 _)
        | ((with_reducible refine wpList_lf_store (o := ⟨none, .store 24 _ _, _, _, _, _⟩) rfl _ _ rfl w8.heap.size l lf0 HI.out lf0_in rfl rfl x9 ?_); intro w10 x10 hg10 _; have HL4 := Lib.hid (ThreeBx.made HL.out (below_stored hB9 hg10 hB9.size (Nat.le_refl _)) x10); clear x9 hB9 x10 hg10; have c9 := HL4.out.2.1.lfPlace (k := k) (by have := HI.out; unfold In at this; omega); have f9 := HL4.out.2.1.frozen (2 + k); generalize hx : l.places.getD k 0 = x at c9 hp0 hp1; have HX := Lib.hid hx; clear hx)
        | fail)
      have L5 := HL4.out.set (2 + k) (.int .i64 (4294967295 - x))
      rw [lcs_set, ← HX.out] at L5
      change ThreeBx _ _ _ _ _ _ _ _ (lcs (overL l k)) at L5
      rw [HX.out] at L5
      clear HL4 c9 f9 HX HL ll
      generalize w8.heap.size = b9 at *
      generalize w10.setCell _ _ = W5 at L5 ⊢
      cases heq : lfEq (overL l k) l with
      | true =>
        rw [heq] at hr
        refine wp_region_class (fun w' => ThreeBx w w' 28 Pq 24 (lcs l) b9 24 (lcs (overL l k))) (by kernel_rfl) (by kernel_rfl) L5.drew ?_
        intro X hX f hf hg
        have cl := fun x => LD.out (f x) _ l HI.out (hf x).1.2.1
        have cm := fun x => LD.out (f x) _ _ (overL_in HI.out k) (hf x).2.1
        have Hf := Lib.hid hf
        have Hg := Lib.hid hg
        clear hf hg L5 LD LP hq
        generalize lcs l = Rl at *
        generalize lcs (overL l k) = Rm at *
        try simp only [Act.put, List.setIfInBounds_toArray, List.set_cons_succ, List.set_cons_zero]
        repeat (go_big_quiet_step (fail))
        refine wpQuiet_nil ?_
        rintro _ ⟨x, rfl⟩
        have HB := Lib.hid (Hf.out x).1.2.2.1
        clear cl cm Hf Hg hr
        generalize f x = W at HB ⊢
        go_wp2
        go_ret
        exact ⟨rfl, HB.out⟩
      | false =>
        have hne := HE.out heq
        rw [heq] at hr
        rw [hne] at hq
        refine wp_region_class (fun w' => ThreeBx w w' 28 Pq 24 (lcs l) b9 24 (lcs (overL l k))) (by kernel_rfl) (by kernel_rfl) L5.drew ?_
        intro X hX f hf hg
        have cl := fun x => LD.out (f x) _ l HI.out (hf x).1.2.1
        have cm := fun x => LD.out (f x) _ _ (overL_in HI.out k) (hf x).2.1
        have Hf := Lib.hid hf
        have Hg := Lib.hid hg
        clear hf hg L5 LD LP hne heq
        generalize lcs l = Rl at *
        generalize lcs (overL l k) = Rm at *
        generalize bs (layL l) = Pl at *
        generalize bs (layL (overL l k)) = Pm at *
        try simp only [Act.put, List.setIfInBounds_toArray, List.set_cons_succ, List.set_cons_zero]
        repeat (go_big_quiet_step ((go_at_call 11; (first | with_reducible exact calls_class (HY.out _) (fun _ hb => Hg.out _ ((Hf.out _).on hb)) | with_reducible exact calls_class (HYm.out _) (fun _ hb => Hg.out _ ((Hf.out _).on hb))))))
        refine wpQuiet_nil ?_
        rintro _ ⟨x, rfl⟩
        have HB := Lib.hid (Hf.out x).1.2.2.1
        clear cl cm Hf Hg hr hq
        generalize f x = W at HB ⊢
        go_wp2
        go_ret
        exact ⟨rfl, HB.out⟩
  · refine wp_region_class (fun w' => ThreeBx w w' 28 (bs p) 24 (lcs l) bx 24 (lcs r)) (by kernel_rfl) (by kernel_rfl) HL3.out.drew ?_
    intro X hX f hf hg
    have cp := fun x => LP.out (f x) _ (hf x).1.1
    have cr := fun x => LD.out (f x) _ r HI2.out (hf x).2.1
    have Hf := Lib.hid hf
    have Hg := Lib.hid hg
    clear hf hg HL3 HK2 HE
    generalize hPq : bs p = Pq at *
    generalize hRr : lcs r = Rr at *
    have HPR := Lib.hid (And.intro hPq hRr)
    clear hPq hRr
    try simp only [Act.put, List.setIfInBounds_toArray, List.set_cons_succ, List.set_cons_zero]
    repeat (go_big_quiet_step (fail))
    refine wpQuiet_nil ?_
    rintro _ ⟨x, rfl⟩
    have HL := Lib.hid (Hf.out x).1
    clear cp cr Hf Hg 
    generalize f x = W at HL ⊢
    clear hX
    have ll := LD.out _ _ l HI.out HL.out.2.1
    have QL := Lib.hid fun w' => lfright_any l w' HI.out
    go_wp2_with fail
    refine (QL.out _).mono ?_
    rintro e w8 ⟨rfl, hb8⟩
    replace HL := Lib.hid (HL.out.on hb8)
    clear hb8 ll
    have ll := LD.out _ _ l HI.out HL.out.2.1
    cases hok : okB l with
    | false =>
      go_wp2
      go_ret
      exact ⟨rfl, HL.out.2.2.1⟩
    | true =>
      have hk : Ok l := of_decide_eq_true hok
      have HY := Lib.hid fun w' => lflay_any l w' hk HI.out
      have HYm := Lib.hid fun w' => lflay_any (overL l k) w' (overL_ok hk HI.out HK.out.2) (overL_in HI.out k)
      have hr := fun w' => equal_leaf w' (overL l k) l (overL_in HI.out k) HI.out
      have hq := fun w' => pg_equal w' (layL (overL l k)) (layL l) (layL_length _ (overL_in HI.out k)) (layL_length _ HI.out)
      have hg1 := pg_guard
      have hg2 := guard_leaf
      have HE := Lib.hid (show lfEq (overL l k) l = false → (layL (overL l k) == layL l) = false from fun h => by
        rw [beq_eq_false_iff_ne]
        intro e
        have := lay_inj (overL_ok hk HI.out HK.out.2) hk (overL_in HI.out k) HI.out e
        rw [(lfEq_iff _ _).2 this] at h
        cases h)
      have hpl := hk.2.2 _ (getD_mem (show k < l.places.length by have := HK.out.2; rw [HI.out]; exact this))
      have hp0 := hpl.1
      have hp1 := hpl.2
      have HKk := HK
      have hkk := HK.out.2
      have hke := HK.out.1
      clear hok hk hpl QL
      go_wp2_with (first
        | ((with_reducible refine wpList_lf_alloc (o := ⟨some 9, .alloc _, _, _, _, _⟩) rfl rfl ?_); intro w9 x9 hB9 _)
        | ((with_reducible refine wpList_lf_store (o := ⟨none, .store 24 _ _, _, _, _, _⟩) rfl _ _ rfl w8.heap.size l lf0 HI.out lf0_in rfl rfl x9 ?_); intro w10 x10 hg10 _; have HL4 := Lib.hid (ThreeBx.made HL.out (below_stored hB9 hg10 hB9.size (Nat.le_refl _)) x10); clear x9 hB9 x10 hg10; have c9 := HL4.out.2.1.lfPlace (k := k) (by have := HI.out; unfold In at this; omega); have f9 := HL4.out.2.1.frozen (2 + k); generalize hx : l.places.getD k 0 = x at c9 hp0 hp1; have HX := Lib.hid hx; clear hx)
        | fail)
      have L5 := HL4.out.set (2 + k) (.int .i64 (4294967295 - x))
      rw [lcs_set, ← HX.out] at L5
      change ThreeBx _ _ _ _ _ _ _ _ (lcs (overL l k)) at L5
      rw [HX.out] at L5
      clear HL4 c9 f9 HX HL ll
      generalize w8.heap.size = b9 at *
      generalize w10.setCell _ _ = W5 at L5 ⊢
      cases heq : lfEq (overL l k) l with
      | true =>
        rw [heq] at hr
        refine wp_region_class (fun w' => ThreeBx w w' 28 Pq 24 (lcs l) b9 24 (lcs (overL l k))) (by kernel_rfl) (by kernel_rfl) L5.drew ?_
        intro X hX f hf hg
        have cl := fun x => LD.out (f x) _ l HI.out (hf x).1.2.1
        have cm := fun x => LD.out (f x) _ _ (overL_in HI.out k) (hf x).2.1
        have Hf := Lib.hid hf
        have Hg := Lib.hid hg
        clear hf hg L5 LD LP hq
        generalize lcs l = Rl at *
        generalize lcs (overL l k) = Rm at *
        try simp only [Act.put, List.setIfInBounds_toArray, List.set_cons_succ, List.set_cons_zero]
        repeat (go_big_quiet_step (fail))
        refine wpQuiet_nil ?_
        rintro _ ⟨x, rfl⟩
        have HB := Lib.hid (Hf.out x).1.2.2.1
        clear cl cm Hf Hg hr
        generalize f x = W at HB ⊢
        go_wp2
        go_ret
        exact ⟨rfl, HB.out⟩
      | false =>
        have hne := HE.out heq
        rw [heq] at hr
        rw [hne] at hq
        refine wp_region_class (fun w' => ThreeBx w w' 28 Pq 24 (lcs l) b9 24 (lcs (overL l k))) (by kernel_rfl) (by kernel_rfl) L5.drew ?_
        intro X hX f hf hg
        have cl := fun x => LD.out (f x) _ l HI.out (hf x).1.2.1
        have cm := fun x => LD.out (f x) _ _ (overL_in HI.out k) (hf x).2.1
        have Hf := Lib.hid hf
        have Hg := Lib.hid hg
        clear hf hg L5 LD LP hne heq
        generalize lcs l = Rl at *
        generalize lcs (overL l k) = Rm at *
        generalize bs (layL l) = Pl at *
        generalize bs (layL (overL l k)) = Pm at *
        try simp only [Act.put, List.setIfInBounds_toArray, List.set_cons_succ, List.set_cons_zero]
        repeat (go_big_quiet_step ((go_at_call 11; (first | with_reducible exact calls_class (HY.out _) (fun _ hb => Hg.out _ ((Hf.out _).on hb)) | with_reducible exact calls_class (HYm.out _) (fun _ hb => Hg.out _ ((Hf.out _).on hb))))))
        refine wpQuiet_nil ?_
        rintro _ ⟨x, rfl⟩
        have HB := Lib.hid (Hf.out x).1.2.2.1
        clear cl cm Hf Hg hr hq
        generalize f x = W at HB ⊢
        go_wp2
        go_ret
        exact ⟨rfl, HB.out⟩
end Go.Proofs.Ytlpkmggboihdjaa

/-
  The answer's Set, Drop of layer 18.
-/
import Derived.Test.YtiljjgohmjimdaaTrT
namespace Go.Proofs.Ytiljjgohmjimdaa
open Go.RowKit Word Tran
set_option linter.unusedVariables false

/-- what becomes of one of a ledger's transactions -/
def withS (id : Int) (t : Tv) (drop : Bool) (x : Tv) : List Tv := if x.t.id = id then (if drop then [] else [t]) else [x]
theorem rw_box {w : World} {b : Nat} {T : TypeId} {u V : Value} (h : Box w b T [u, V]) : w.cell? ⟨b, 0, none⟩ = some u ∧ w.cell? ⟨b, 1, none⟩ = some V := ⟨h.cell 0, h.cell 1⟩
/-- what stands in memory while the answer's with works -/
structure RwSt (w wr : World) (x : Lv) (t : Tv) (V : Value) (O : List Tv) : Prop where
  b0 : Box wr w.heap.size 24 (lgc x)
  b1 : Box wr (w.heap.size + 1) 27 (tnc t)
  b2 : Box wr (w.heap.size + 1 + 1) 24 (lgc lz)
  b3 : Box wr (w.heap.size + 1 + 1 + 1) 24 [.int .i64 x.nx, V]
  own : wr.ownsRow (w.heap.size + 1 + 1 + 1 + 1) 27 3 V O.length (tns O)
  below : Below w.heap.size w wr
section
variable {w wr w' : World} {x : Lv} {t : Tv} {V V' : Value} {O : List Tv} {z : Tv}
theorem RwSt.on (h : RwSt w wr x t V O) (hb : Below wr.heap.size wr w') : RwSt w w' x t V O := ⟨h.b0.on hb, h.b1.on hb, h.b2.on hb, h.b3.on hb, own_below h.own hb, bthen h.below hb⟩
theorem RwSt.far (h : RwSt w wr x t V O) : ∀ b, V.ownBlock = some b → w.heap.size + 1 + 1 + 1 < b := fun b hb => by have := (h.own.lt b hb).1; omega
theorem RwSt.keep {b : Nat} {T : TypeId} {cs : List Value} (h : RwSt w wr x t V O) (hg : wr.grownBy w' V.ownBlock) (hx : Box wr b T cs) (hb : b ≤ w.heap.size + 1 + 1 + 1) : Box w' b T cs :=
  hx.same (hg.block _ hx.lt fun e => by have := h.far b e.symm; omega)
theorem RwSt.boxes (h : RwSt w wr x t V O) (hg : wr.grownBy w' V.ownBlock) : Box w' (w.heap.size + 1 + 1 + 1) 24 [.int .i64 x.nx, V] := h.keep hg h.b3 (Nat.le_refl _)
theorem RwSt.box0 (h : RwSt w wr x t V O) (hg : wr.grownBy w' V.ownBlock) : Box w' w.heap.size 24 (lgc x) := h.keep hg h.b0 (by omega)
theorem RwSt.put (h : RwSt w wr x t V O) (hg : wr.grownBy w' V.ownBlock) (hown : w'.ownsRow (w.heap.size + 1 + 1 + 1 + 1) 27 3 V' (O.length + 1) (tns O ++ tnc z)) :
    RwSt w (w'.setCell ⟨w.heap.size + 1 + 1 + 1, 1, none⟩ V') x t V' (O ++ [z]) := by
  have h3 := h.boxes hg
  have kb : Below w.heap.size w w' := h.below.grown hg h.below.size fun k hk => by have := h.far k hk; omega
  have hl : (O ++ [z]).length = O.length + 1 := by simp
  have ht : tns (O ++ [z]) = tns O ++ tnc z := by rw [tns_append, tns_single]
  refine ⟨(h.box0 hg).grown set_grown (by omega), (h.keep hg h.b1 (by omega)).grown set_grown (by omega), (h.keep hg h.b2 (by omega)).grown set_grown (by omega), h3.set 1 _, ?_, below_stored kb set_grown kb.size (by omega)⟩
  rw [hl, ht]
  exact trow_kept hown set_grown fun b hb e => by
    injection e with e
    have := (hown.lt b hb).1
    omega
end
set_option maxRecDepth 100000 in
set_option maxHeartbeats 40000000 in
theorem rwith_any (x : Lv) (id : Int) (t : Tv) (drop : Bool) (w : World) (hi : LIn w x) :
    Calls Try.prog 26 #[lval x, .int .i64 id, tval t, .bool drop] w fun e w' => ∃ z : Lv, e = .returned (lval z) ∧ z.nx = x.nx ∧ z.l = x.l.flatMap (withS id t drop) ∧ w'.ownsRow w.heap.size 27 3 z.v z.l.length (tns z.l) ∧ Below w.heap.size w w' := by
  have HI := Lib.hid hi
  clear hi
  obtain ⟨nx, l, A, cap⟩ := x
  obtain ⟨n, hn⟩ : ∃ n, l.length = n := ⟨_, rfl⟩
  have HN := Lib.hid hn
  have HM : n ≤ 10000 := by have := HI.out.few; have h2 : l.length ≤ 10000 := this; omega
  clear hn
  go_enter Try.func26, Try.ntmps26
  go_wp2_with (first
    | ((with_reducible refine wpList_box_box _ (o := ⟨some 4, .box _ _, _, _, _, _⟩) rfl _ _ rfl (lgc ⟨nx, l, A, cap⟩) rfl ?_); intro w1 x1 B1 s1)
    | ((with_reducible refine wpList_box_box _ (o := ⟨some 6, .box _ _, _, _, _, _⟩) rfl _ _ rfl (tnc t) rfl ?_); intro w2 x2 B2 s2; rw [s1] at x2 s2; rw [s1])
    | ((with_reducible refine wpList_alloc_box _ (o := ⟨some 8, .alloc _, _, _, _, _⟩) rfl _ rfl (lgc lz) zero_lg ?_); intro w3 x3 B3 s3; rw [s2] at x3 s3; rw [s2]; obtain ⟨c0, c1⟩ := lg_box (x1.on (bthen B2 B3)))
    | ((with_reducible refine wpList_alloc_box _ (o := ⟨some 9, .alloc _, _, _, _, _⟩) rfl _ rfl (lgc lz) zero_lg ?_); intro w5 x5 B5 s5; rw [s3] at x5; rw [s3])
    | ((with_reducible refine wpList_store_var _ (o := ⟨none, .store _ (.tmp 9) _, _, _, _, _⟩) rfl 24 _ _ rfl (w.heap.size + 1 + 1 + 1) [.int .i64 nx, .slice none 0 0] (lgc lz) (lg_size2 _ _ _ _) rfl (lg_one2 _ _ _ _) rfl rfl x5 ?_); go_loud (intro w6 x6 hg6; have kk := bthen (bthen (bthen B1 B2) B3) B5; have H6 : Hid (RwSt w w6 ⟨nx, l, A, cap⟩ t (.slice none 0 0) []) := Lib.hid ⟨(x1.on (bthen (bthen B2 B3) B5)).grown hg6 (by omega), (x2.on (bthen B3 B5)).grown hg6 (by omega), (x3.on B5).grown hg6 (by omega), x6, World.ownsRow_nil _ _ _ _, below_stored kk hg6 kk.size (by omega)⟩; clear x1 B1 s1 x2 B2 s2 x3 B3 s3 x5 B5 s5 x6 hg6 kk c0 c1))
    | fail)
  go_loopw [10] (fun v10 wr => ∃ (k : Nat) (O : List Tv) (V : Value), v10 = .int .i64 k ∧ k ≤ n ∧ Hid ((l.take k).flatMap (withS id t drop) = O) ∧ Hid (O.length ≤ k) ∧ Hid (RwSt w wr ⟨nx, l, A, cap⟩ t V O)) (fun v10 _ => n - (intOf v10).toNat)
  case atStart => exact ⟨0, [], _, rfl, by omega, Lib.hid rfl, Lib.hid (Nat.le_refl _), H6⟩
  case round =>
    obtain ⟨k, O, V, rfl, hk, HFl, HOk, Hr⟩ := hrel
    clear H6
    have HOL := Lib.hid (show O.length ≤ 10000 by have := HOk.out; omega)
    by_cases hlt : k < n
    · have hlk : l[k]? = some (l[k]'(by rw [HN.out]; exact hlt)) := List.getElem?_eq_getElem _
      obtain ⟨ad, hA, _⟩ := tn_at HI.out.rd.1 hlk
      obtain rfl : A = some ad := hA
      have HE0 := Lib.hid fun w' (hb : Below w.heap.size w w') => tn_some (HI.out.rd.below hb).1 hlk
      have HFo := Lib.hid (show (l.take (k + 1)).flatMap (withS id t drop) = O ++ withS id t drop (l[k]'(by rw [HN.out]; exact hlt)) by
        rw [List.take_succ_eq_append_getElem (by rw [HN.out]; exact hlt), List.flatMap_append, HFl.out]
        simp)
      generalize l[k]'(by rw [HN.out]; exact hlt) = y at *
      clear hlk HFl
      have hki : (k : Int) < (n : Int) := by omega
      by_cases h1 : y.t.id = id
      · have hd : (y.t.id != id) = false := by simp [h1]
        cases drop
        · have HF := Lib.hid (show withS id t false y = [t] by simp [withS, h1])
          clear h1
          obtain ⟨c0, c1⟩ := lg_box Hr.out.b0
          simp only [HN.out] at c1
          obtain ⟨e0, e1, e2⟩ := HE0.out wr Hr.out.below
          have HOW := Lib.hid Hr.out.own
          obtain ⟨t0, t1, t2⟩ := tn_box Hr.out.b1
          obtain ⟨_, m1⟩ := rw_box Hr.out.b3
          obtain ⟨AA, cc, eV⟩ := own_slice Hr.out.own
          subst eV
          go_wp2_with (first
            | ((with_reducible refine wpList_slice_one _ (o := ⟨some 44, .buildSlice _ _ _, _, _, _, _⟩) rfl 22 27 _ rfl _ 3 40 elemT (by decide) (tnc t) rfl rfl ?_))
            | (at_builtin; go_loud (refine wpList_append_tell _ rfl _ _ _ rfl (w.heap.size + 1 + 1 + 1 + 1) 27 _ 3 40 elemT (.slice AA O.length cc) _ _ rfl (tnc t) rfl HOW.out rfl (tnc_one t) (by have := HOL.out; simp only [maxLen]; omega) (by have := HOL.out; omega) (by have := Hr.out.b3.lt; omega) ?_); go_loud (intro v5 w50 hown5 hg5 _; obtain ⟨A5, c5, rfl⟩ := own_slice hown5; have hx5 := Hr.out.boxes hg5; obtain ⟨_, m15⟩ := rw_box hx5; have f15 := hx5.frozen 1; have H5 := Lib.hid (Hr.out.put hg5 hown5); clear hx5 hown5 hg5 m1 HOW))
            | fail)
          go_wp2
          go_roundw
          case rel => exact ⟨k + 1, O ++ [t], _, by go_num, by omega, Lib.hid (by rw [HFo.out, HF.out]; try rw [List.append_nil]), Lib.hid (by have := HOk.out; simp; omega), H5⟩
          case measure => first | (simp [intOf]; done) | (simp [intOf]; omega)
        · have HF := Lib.hid (show withS id t true y = [] by simp [withS, h1])
          clear h1
          obtain ⟨c0, c1⟩ := lg_box Hr.out.b0
          simp only [HN.out] at c1
          obtain ⟨e0, e1, e2⟩ := HE0.out wr Hr.out.below
          go_wp2
          go_roundw
          case rel => exact ⟨k + 1, O, _, by go_num, by omega, Lib.hid (by rw [HFo.out, HF.out]; try rw [List.append_nil]), Lib.hid (by have := HOk.out; simp; omega), Hr⟩
          case measure => first | (simp [intOf]; done) | (simp [intOf]; omega)
      · have hd : (y.t.id != id) = true := by simpa using h1
        have HF := Lib.hid (show withS id t drop y = [y] by simp [withS, h1])
        clear h1
        obtain ⟨AB, cb, eW⟩ := own_slice Hr.out.own
        subst eW
        have HSO := Lib.hid fun w' (hb : Below wr.heap.size wr w') => (⟨(rw_box (Hr.out.on hb).b3).2, (lg_box (Hr.out.on hb).b0).2.trans (by rw [← HN.out]), HE0.out w' (bthen Hr.out.below hb)⟩ : w'.cell? ⟨(w.heap.size + 1 + 1 + 1), 1, none⟩ = some (.slice AB O.length cb) ∧ w'.cell? ⟨w.heap.size, 1, none⟩ = some (.slice (some ad) n cap) ∧ w'.cell? (ad.add (k * 3)) = some (.int .i64 y.t.id) ∧ w'.cell? ⟨(ad.add (k * 3)).block, (ad.add (k * 3)).off + 1, none⟩ = some (.int .i64 y.t.bg) ∧ w'.cell? ⟨(ad.add (k * 3)).block, (ad.add (k * 3)).off + 2, none⟩ = some (.slice y.A y.t.ws.length y.cap))
        have HSd := Lib.hid (HSO.out wr.drew (Below.refl _ _).drew)
        obtain ⟨c0, c1⟩ := lg_box Hr.out.b0
        simp only [HN.out] at c1
        obtain ⟨e0, e1, e2⟩ := HE0.out wr Hr.out.below
        go_wp2_with fail
        clear c0 c1 e0 e1 e2
        refine wp_region_heldT (fun w' => w'.cell? ⟨(w.heap.size + 1 + 1 + 1), 1, none⟩ = some (.slice AB O.length cb) ∧ w'.cell? ⟨w.heap.size, 1, none⟩ = some (.slice (some ad) n cap) ∧ w'.cell? (ad.add (k * 3)) = some (.int .i64 y.t.id) ∧ w'.cell? ⟨(ad.add (k * 3)).block, (ad.add (k * 3)).off + 1, none⟩ = some (.int .i64 y.t.bg) ∧ w'.cell? ⟨(ad.add (k * 3)).block, (ad.add (k * 3)).off + 2, none⟩ = some (.slice y.A y.t.ws.length y.cap)) 9 (by kernel_rfl) (by kernel_rfl) ?_
        refine heldT_take (i := 0) (oi := ⟨some 29, .fieldAddr _ _ _, _, _, _, _⟩) (v := ?vb0) rfl (by kernel_rfl) (by decide) (by kernel_rfl) (by kernel_rfl) (fun _ _ _ h => h) (Or.inl ⟨by rfl, ?hyb0⟩) HSd.out ?restb0
        case hyb0 =>
          intro w hSw
          obtain ⟨hS0, hS1, hS2, hS3, hS4⟩ := hSw
          go_simp
          try with_reducible rfl
        try simp only [Act.put, List.setIfInBounds_toArray, List.set_cons_zero, List.set_cons_succ]
        refine heldT_take (i := 1) (oi := ⟨some 30, .load _ _, _, _, _, _⟩) (v := ?vb1) rfl (by kernel_rfl) (by decide) (by kernel_rfl) (by kernel_rfl) (fun _ _ _ h => h) (Or.inl ⟨by rfl, ?hyb1⟩) HSd.out ?restb1
        case hyb1 =>
          intro w hSw
          obtain ⟨hS0, hS1, hS2, hS3, hS4⟩ := hSw
          go_simp
          try with_reducible rfl
        try simp only [Act.put, List.setIfInBounds_toArray, List.set_cons_zero, List.set_cons_succ]
        refine heldT_take (i := 2) (oi := ⟨some 31, .fieldAddr _ _ _, _, _, _, _⟩) (v := ?vb2) rfl (by kernel_rfl) (by decide) (by kernel_rfl) (by kernel_rfl) (fun _ _ _ h => h) (Or.inl ⟨by rfl, ?hyb2⟩) HSd.out ?restb2
        case hyb2 =>
          intro w hSw
          obtain ⟨hS0, hS1, hS2, hS3, hS4⟩ := hSw
          go_simp
          try with_reducible rfl
        try simp only [Act.put, List.setIfInBounds_toArray, List.set_cons_zero, List.set_cons_succ]
        refine heldT_take (i := 3) (oi := ⟨some 32, .load _ _, _, _, _, _⟩) (v := ?vb3) rfl (by kernel_rfl) (by decide) (by kernel_rfl) (by kernel_rfl) (fun _ _ _ h => h) (Or.inl ⟨by rfl, ?hyb3⟩) HSd.out ?restb3
        case hyb3 =>
          intro w hSw
          obtain ⟨hS0, hS1, hS2, hS3, hS4⟩ := hSw
          go_simp
          try with_reducible rfl
        try simp only [Act.put, List.setIfInBounds_toArray, List.set_cons_zero, List.set_cons_succ]
        refine heldT_take (i := 4) (oi := ⟨some 33, .move _, _, _, _, _⟩) (v := ?vb4) rfl (by kernel_rfl) (by decide) (by kernel_rfl) (by kernel_rfl) (fun _ _ _ h => h) (Or.inl ⟨by rfl, ?hyb4⟩) HSd.out ?restb4
        case hyb4 =>
          intro w hSw
          obtain ⟨hS0, hS1, hS2, hS3, hS4⟩ := hSw
          go_simp
          try with_reducible rfl
        try simp only [Act.put, List.setIfInBounds_toArray, List.set_cons_zero, List.set_cons_succ]
        refine heldT_take (i := 5) (oi := ⟨some 34, .indexAddr _ _ _, _, _, _, _⟩) (v := ?vb5) rfl (by kernel_rfl) (by decide) (by kernel_rfl) (by kernel_rfl) (fun _ _ _ h => h) (Or.inl ⟨by rfl, ?hyb5⟩) HSd.out ?restb5
        case hyb5 =>
          intro w hSw
          obtain ⟨hS0, hS1, hS2, hS3, hS4⟩ := hSw
          go_simp
          try with_reducible rfl
        try simp only [Act.put, List.setIfInBounds_toArray, List.set_cons_zero, List.set_cons_succ]
        refine heldT_take (i := 6) (oi := ⟨some 35, .load _ _, _, _, _, _⟩) (v := ?vb6) rfl (by kernel_rfl) (by decide) (by kernel_rfl) (by kernel_rfl) (fun _ _ _ h => h) (Or.inl ⟨by rfl, ?hyb6⟩) HSd.out ?restb6
        case hyb6 =>
          intro w hSw
          obtain ⟨hS0, hS1, hS2, hS3, hS4⟩ := hSw
          go_simp
          try with_reducible rfl
        try simp only [Act.put, List.setIfInBounds_toArray, List.set_cons_zero, List.set_cons_succ]
        refine heldT_one (i := 7) (o := ⟨some 36, .buildSlice _ _ _, _, _, _, _⟩) rfl (by kernel_rfl) (by decide) (fun K hK => ?_)
        refine step_slice_one _ rfl _ _ rfl 27 _ 3 40 elemT (by decide) (tnc y) rfl rfl ?_
        refine hK.out _ _ (HSO.out _ ((Below.refl _ _).drew.alloc (Nat.le_refl _) _)) ?_
        clear hK K
        try simp only [Act.put, List.setIfInBounds_toArray, List.set_cons_zero, List.set_cons_succ]
        refine heldT_one (i := 8) (o := ⟨some 37, .call _, _, _, _, _⟩) rfl (by kernel_rfl) (by decide) (fun K hK => ?_)
        refine step_append_rd _ rfl _ _ _ rfl (w.heap.size + 1 + 1 + 1 + 1) 27 _ 3 40 elemT (.slice AB O.length cb) O.length (tns O) rfl (own_below Hr.out.own ((Below.refl _ _).drew.alloc (Nat.le_refl _) _)) _ (some ⟨wr.heap.size, 0, none⟩) 1 1 (tnc y) rfl rfl (rd_new wr.drew (tnc y) 27 (0, 0)) (tnc_one y) (by have := HOL.out; simp only [maxLen]; omega) (by have := HOL.out; omega) (by have := Hr.out.b3.lt; simp; omega) ?_
        intro v9 w9 hown9 hg9
        obtain ⟨A9, c9, rfl⟩ := own_slice hown9
        have Hd := Hr.out.on ((Below.refl _ _).drew.alloc (Nat.le_refl _) (.cells (tnc y).toArray 27))
        have hx9 := Hd.boxes hg9
        have HS9 : Hid (w9.cell? ⟨(w.heap.size + 1 + 1 + 1), 1, none⟩ = some (.slice AB O.length cb) ∧ w9.cell? ⟨w.heap.size, 1, none⟩ = some (.slice (some ad) n cap) ∧ w9.cell? (ad.add (k * 3)) = some (.int .i64 y.t.id) ∧ w9.cell? ⟨(ad.add (k * 3)).block, (ad.add (k * 3)).off + 1, none⟩ = some (.int .i64 y.t.bg) ∧ w9.cell? ⟨(ad.add (k * 3)).block, (ad.add (k * 3)).off + 2, none⟩ = some (.slice y.A y.t.ws.length y.cap)) := Lib.hid ⟨(rw_box hx9).2, (lg_box (Hd.box0 hg9)).2.trans (by rw [← HN.out]), HE0.out w9 (Hd.below.grown hg9 Hd.below.size fun b hb => by have := (Hd.own.lt b hb).1; omega)⟩
        obtain ⟨_, m19⟩ := rw_box hx9
        have f19 := hx9.frozen 1
        have H5 := Lib.hid (Hd.put hg9 hown9)
        clear hx9 hown9 hg9 Hd HSd
        refine hK.out _ _ HS9.out ?_
        clear hK K
        try simp only [Act.put, List.setIfInBounds_toArray, List.set_cons_zero, List.set_cons_succ]
        refine heldT_done (by kernel_rfl) ?_
        clear HS9
        go_wp2
        go_roundw
        case rel => exact ⟨k + 1, O ++ [y], _, by go_num, by omega, Lib.hid (by rw [HFo.out, HF.out]; try rw [List.append_nil]), Lib.hid (by have := HOk.out; simp; omega), H5⟩
        case measure => first | (simp [intOf]; done) | (simp [intOf]; omega)
    · obtain rfl : n = k := by omega
      have HAll := Lib.hid (show O = l.flatMap (withS id t drop) by
        have h := HFl.out
        rw [List.take_of_length_le (by rw [HN.out]; exact Nat.le_refl _)] at h
        exact h.symm)
      obtain ⟨_, c1⟩ := lg_box Hr.out.b0
      simp only [HN.out] at c1
      obtain ⟨AA, cc, eV⟩ := own_slice Hr.out.own
      subst eV
      obtain ⟨p5, q5⟩ := rw_box Hr.out.b3
      go_wp2_with (first
        | ((with_reducible refine wpList_store_var _ (o := ⟨none, .store _ (.tmp 8) _, _, _, _, _⟩) rfl 24 _ _ rfl (w.heap.size + 1 + 1) [.int .i64 nx, .slice AA O.length cc] (lgc lz) (lg_size2 _ _ _ _) rfl (lg_one2 _ _ _ _) rfl rfl Hr.out.b2 ?_); go_loud (intro w8 x8 hg8))
        | fail)
      obtain ⟨j0, j1⟩ := rw_box x8
      have hrow : w8.ownsRow _ 27 3 (.slice AA O.length cc) O.length (tns O) := trow_kept Hr.out.own hg8 fun b hb e => by
        injection e with e
        have := (Hr.out.own.lt b hb).1
        omega
      have HB := below_stored Hr.out.below hg8 Hr.out.below.size (by omega)
      exact bodyPost_ret (v := .agg #[.int .i64 nx, .slice AA O.length cc]) (by simp [results, Try.results26, go_sem, j0, j1]) rfl ⟨⟨nx, O, AA, cc⟩, rfl, rfl, HAll.out, own_base0 hrow (by omega), HB⟩
/-- with what must be known of the one that is laid, it is a ledger again -/
theorem with_inn {w w' : World} {x z : Lv} {id : Int} {t : Tv} {drop : Bool} (hi : LIn w x) (ht : TIn t.t) (hrt : Rd w w.heap.size t.A (tws t.t.ws)) (hz : z.l = x.l.flatMap (withS id t drop)) (hr : Rd w' w'.heap.size z.A (tns z.l)) (hb : Below w.heap.size w w') : LIn w' z := by
  have hmem : ∀ y ∈ z.l, y ∈ x.l ∨ y = t := fun y hy => by
    rw [hz] at hy
    obtain ⟨v, hv, hy⟩ := List.mem_flatMap.1 hy
    unfold withS at hy
    split at hy
    · split at hy
      · cases hy
      · exact .inr (List.mem_singleton.1 hy)
    · rw [List.mem_singleton.1 hy]; exact .inl hv
  have hlen : ∀ l : List Tv, (l.flatMap (withS id t drop)).length ≤ l.length := by
    intro l
    induction l with
    | nil => simp
    | cons v l ih =>
      rw [List.flatMap_cons, List.length_append, List.length_cons]
      have : (withS id t drop v).length ≤ 1 := by
        unfold withS
        split
        · split <;> simp
        · simp
      omega
  refine ⟨?_, ⟨hr, fun y hy => ?_⟩, fun y hy => ?_⟩
  · rw [hz]; exact Nat.le_trans (hlen _) hi.few
  · rcases hmem y hy with h | rfl
    · exact ((hi.rd.2 y h).below hb).more hb.size
    · exact (hrt.below hb).more hb.size
  · rcases hmem y hy with h | rfl
    · exact hi.each y h
    · exact ht
set_option maxRecDepth 100000 in
theorem rset_any (x : Lv) (t : Tv) (w : World) (hi : LIn w x) (ht : TIn t.t) (hrt : Rd w w.heap.size t.A (tws t.t.ws)) :
    Calls Try.prog 16 #[lval x, tval t] w fun e w' => ∃ z : Lv, e = .returned (lval z) ∧ z.nx = x.nx ∧ z.l = x.l.flatMap (withS t.t.id t false) ∧ LIn w' z ∧ Below w.heap.size w w' := by
  have HI := Lib.hid (And.intro hi (And.intro ht hrt))
  clear hi ht hrt
  go_enter Try.func16, Try.ntmps16
  go_wp2_with (first
    | ((with_reducible refine wpList_box_box _ (o := ⟨some 2, .box _ _, _, _, _, _⟩) rfl _ _ rfl (lgc x) rfl ?_); intro w1 x1 B1 s1)
    | ((with_reducible refine wpList_box_box _ (o := ⟨some 3, .box _ _, _, _, _, _⟩) rfl _ _ rfl (tnc t) rfl ?_); intro w2 x2 B2 s2; rw [s1] at x2 s2; rw [s1])
    | ((with_reducible refine wpList_alloc_box _ (o := ⟨some 4, .alloc _, _, _, _, _⟩) rfl _ rfl (lgc lz) zero_lg ?_); intro w3 x3 B3 s3; rw [s2] at x3 s3; rw [s2]; obtain ⟨c0, c1⟩ := lg_box (x1.on (bthen B2 B3)); obtain ⟨d0, d1, d2⟩ := tn_box (x2.on B3); have H3 := Lib.hid (And.intro (bthen (bthen B1 B2) B3) x3); clear x1 B1 s1 x2 B2 s2 x3 B3 s3)
    | fail)
  refine (rwith_any x t.t.id t false w3 (HI.out.1.on H3.out.1)).mono ?_
  rintro e w4 ⟨z, rfl, hn, hl, hr, hb⟩
  have H4 := Lib.hid (And.intro hn (And.intro hl (And.intro hr (And.intro hb (H3.out.2.on hb)))))
  clear hn hl hr hb c0 c1 d0 d1 d2
  go_wp2_with (first
    | ((with_reducible refine wpList_store_var _ (o := ⟨none, .store _ (.tmp 4) _, _, _, _, _⟩) rfl 24 _ _ rfl (w.heap.size + 1 + 1) (lgc z) (lgc lz) (lg_size _) rfl (lgc_one _) rfl rfl H4.out.2.2.2.2 ?_); go_loud (intro w8 x8 hg8))
    | fail)
  obtain ⟨j0, j1⟩ := lg_box x8
  have hb3 := bthen H3.out.1 H4.out.2.2.2.1
  have HB := below_stored hb3 hg8 hb3.size (by omega)
  have hlt := H3.out.2.lt
  have hrow := trow_kept H4.out.2.2.1 hg8 fun b hb e => by
    injection e with e
    have := (H4.out.2.2.1.lt b hb).1
    omega
  exact bodyPost_ret (v := lval z) (by simp [results, Try.results16, go_sem, j0, j1]) rfl ⟨z, rfl, H4.out.1, H4.out.2.1, with_inn HI.out.1 HI.out.2.1 HI.out.2.2 H4.out.2.1 (Rd.own hrow) HB, HB⟩
set_option maxRecDepth 100000 in
theorem rdrop_any (x : Lv) (id : Int) (w : World) (hi : LIn w x) :
    Calls Try.prog 14 #[lval x, .int .i64 id] w fun e w' => ∃ z : Lv, e = .returned (lval z) ∧ z.nx = x.nx ∧ z.l = x.l.flatMap (withS id tz true) ∧ LIn w' z ∧ Below w.heap.size w w' := by
  have HI := Lib.hid hi
  clear hi
  go_enter Try.func14, Try.ntmps14
  go_wp2_with (first
    | ((with_reducible refine wpList_box_box _ (o := ⟨some 2, .box _ _, _, _, _, _⟩) rfl _ _ rfl (lgc x) rfl ?_); intro w1 x1 B1 s1)
    | ((with_reducible refine wpList_alloc_box _ (o := ⟨some 4, .alloc _, _, _, _, _⟩) rfl _ rfl (lgc lz) zero_lg ?_); intro w3 x3 B3 s3; rw [s1] at x3; rw [s1]; obtain ⟨c0, c1⟩ := lg_box (x1.on B3); have H3 := Lib.hid (And.intro (bthen B1 B3) x3); clear x1 B1 s1 x3 B3 s3)
    | fail)
  refine (rwith_any x id tz true w3 (HI.out.on H3.out.1)).mono ?_
  rintro e w4 ⟨z, rfl, hn, hl, hr, hb⟩
  have H4 := Lib.hid (And.intro hn (And.intro hl (And.intro hr (And.intro hb (H3.out.2.on hb)))))
  clear hn hl hr hb c0 c1
  go_wp2_with (first
    | ((with_reducible refine wpList_store_var _ (o := ⟨none, .store _ (.tmp 4) _, _, _, _, _⟩) rfl 24 _ _ rfl (w.heap.size + 1) (lgc z) (lgc lz) (lg_size _) rfl (lgc_one _) rfl rfl H4.out.2.2.2.2 ?_); go_loud (intro w8 x8 hg8))
    | fail)
  obtain ⟨j0, j1⟩ := lg_box x8
  have hb3 := bthen H3.out.1 H4.out.2.2.2.1
  have HB := below_stored hb3 hg8 hb3.size (by omega)
  have hlt := H3.out.2.lt
  have hrow := trow_kept H4.out.2.2.1 hg8 fun b hb e => by
    injection e with e
    have := (H4.out.2.2.1.lt b hb).1
    omega
  exact bodyPost_ret (v := lval z) (by simp [results, Try.results14, go_sem, j0, j1]) rfl ⟨z, rfl, H4.out.1, H4.out.2.1, with_inn HI.out ⟨by decide, fun o ho => by cases ho⟩ Rd.empty H4.out.2.1 (Rd.own hrow) HB, HB⟩
end Go.Proofs.Ytiljjgohmjimdaa

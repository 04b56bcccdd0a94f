/-
  Package trans: Set.
-/
import Derived.Test.YtiljjgohmjimdaaTrJ
namespace Go.Proofs.Ytiljjgohmjimdaa
open Go.RowKit Word Tran
set_option linter.unusedVariables false

/-- what stands in memory while Set works -/
structure SeSt (w wr : World) (x : Lv) (y : Tv) (z : Lv) (bm : Nat) : Prop where
  b0 : Box wr w.heap.size 24 (lgc x)
  b1 : Box wr (w.heap.size + 1) 27 (tnc y)
  b2 : Box wr (w.heap.size + 1 + 1) 24 (lgc lz)
  m : Box wr bm 24 (lgc z)
  own : LOwn wr (w.heap.size + 1 + 1 + 1) z
  far : w.heap.size + 1 + 1 < bm
  below : Below w.heap.size w wr
theorem SeSt.on {w wr w' : World} {x : Lv} {y : Tv} {z : Lv} {bm : Nat} (h : SeSt w wr x y z bm) (hb : Below wr.heap.size wr w') : SeSt w w' x y z bm := ⟨h.b0.on hb, h.b1.on hb, h.b2.on hb, h.m.on hb, h.own.on hb, h.far, bthen h.below hb⟩
theorem SeSt.row {w wr : World} {x : Lv} {y : Tv} {nx : Int} {L : List Tv} {A : Option Addr} {c n bm : Nat} (h : SeSt w wr x y ⟨nx, L, A, c⟩ bm) (hn : L.length = n) : wr.ownsRow (w.heap.size + 1 + 1 + 1) 27 3 (.slice A n c) n (tns L) := by
  subst hn
  exact h.own.own.row
theorem SeSt.put {w wr w2 w3 : World} {x : Lv} {y : Tv} {nx : Int} {L : List Tv} {c n bm g k : Nat} {z : Tv} (h : SeSt w wr x y ⟨nx, L, some ⟨g, 0, none⟩, c⟩ bm) (hn : L.length = n) (hk : k < n) (hb : Below wr.heap.size wr w2) (hx : w2.ownsRow wr.heap.size 49 34 z.v z.t.ws.length (tws z.t.ws))
    (hg : w2.grownBy w3 (some g)) (hr : w3.ownsRow (w.heap.size + 1 + 1 + 1) 27 3 (.slice (some ⟨g, 0, none⟩) n c) n (lay (tns L) (k * 3) (tnc z))) : SeSt w w3 x y ⟨nx, L.set k z, some ⟨g, 0, none⟩, c⟩ bm := by
  subst hn
  have h2 := h.on hb
  have hw : w.heap.size ≤ wr.heap.size := h.below.size
  have hb2 := h.b2.lt
  have hset := h2.own.own.set (k := k) (x := z) hx (by omega) (fun y hy b hb => (h.own.own.each y hy).lt b hb |>.2) hg (by rw [← tns_lay _ _ _ hk]; exact hr)
  have hgb := (h2.own.own.row.lt g rfl).1
  have hgm : bm ≠ g := fun e => h2.m.ne_row h2.own.own.row rfl lg_ne1 e
  refine ⟨h2.b0.grown hg (by omega), h2.b1.grown hg (by omega), h2.b2.grown hg (by omega), ?_, ⟨?_⟩, h.far, below_stored h2.below hg h2.below.size (by omega)⟩
  · show Box _ _ _ [.int .i64 nx, .slice (some ⟨g, 0, none⟩) (L.set k z).length c]
    rw [List.length_set]
    exact h2.m.grown hg hgm
  · show TOwn _ _ (.slice (some ⟨g, 0, none⟩) (L.set k z).length c) _
    rw [List.length_set]
    exact hset
theorem setT_hit {l L : List Tv} {y : Tn} {z : Tv} (hm : L.map Tv.t = l.map Tv.t) (hz : z.t = y) (hh : hit y.id (tids l) = true) : (L.set (pos y.id (tids l)) z).map Tv.t = setT y (l.map Tv.t) := by
  unfold setT
  have h2 : hit y.id (ids (l.map Tv.t)) = true := hh
  rw [if_pos h2, List.map_set, hm, hz]
  rfl
theorem setT_not {l : List Tv} {y : Tn} (hh : hit y.id (tids l) = false) : setT y (l.map Tv.t) = l.map Tv.t := by
  unfold setT
  have h2 : hit y.id (ids (l.map Tv.t)) = false := hh
  rw [h2]
  rfl
set_option maxRecDepth 100000 in
set_option maxHeartbeats 4000000 in
theorem set_any (x : Lv) (y : Tv) (w : World) (hi : LIn w x) (hs : Rise (tids x.l)) (hy : TIn y.t) (hr : Rd w w.heap.size y.A (tws y.t.ws)) :
    Calls Try.prog 15 #[lval x, tval y] w fun e w' => ∃ z : Lv, e = .returned (lval z) ∧ z.nx = x.nx ∧ z.l.map Tv.t = setT y.t (x.l.map Tv.t) ∧ LOwn w' w.heap.size z ∧ Below w.heap.size w w' := by
  obtain ⟨nx, l, A, cap⟩ := x
  have HI := Lib.hid hi
  have HS := Lib.hid (show Rise (tids l) from hs)
  have HY := Lib.hid (And.intro hy hr)
  clear hi hs hy hr
  obtain ⟨n, hn⟩ : ∃ n, l.length = n := ⟨_, rfl⟩
  have HN := Lib.hid hn
  have HM : n ≤ 10000 := by have := HI.out.few; have h2 : l.length ≤ 10000 := this; omega
  clear hn
  go_enter Try.func15, Try.ntmps15
  go_wp2_with (first
    | ((with_reducible refine wpList_box_box _ (o := ⟨some 2, .box _ _, _, _, _, _⟩) rfl _ _ rfl (lgc ⟨nx, l, A, cap⟩) rfl ?_); intro w1 x1 B1 s1)
    | ((with_reducible refine wpList_box_box _ (o := ⟨some 3, .box _ _, _, _, _, _⟩) rfl _ _ rfl (tnc y) rfl ?_); intro w2 x2 B2 s2; rw [s1] at x2 s2; rw [s1])
    | ((with_reducible refine wpList_alloc_box _ (o := ⟨some 4, .alloc _, _, _, _, _⟩) rfl _ rfl (lgc lz) zero_lg ?_); intro w3 x3 B3 s3; obtain ⟨c0, c1⟩ := lg_box (x1.on (bthen B2 B3)); rw [s2] at x3 s3; have H3 := Lib.hid (And.intro (bthen (bthen B1 B2) B3) (And.intro (x1.on (bthen B2 B3)) (And.intro (x2.on B3) (And.intro x3 s3)))); rw [s2]; clear x1 B1 s1 x2 B2 s2 x3 B3 s3)
    | fail)
  refine (ledger_any ⟨nx, l, A, cap⟩ w3 (HI.out.on H3.out.1)).mono ?_
  rintro e w4 ⟨⟨ny, L, A3, c3⟩, rfl, hny, hmap, hown, hb⟩
  obtain rfl : ny = nx := hny
  have HL := Lib.hid (show L.length = n by have := map_len hmap; have h2 : L.length = l.length := this; rw [h2, HN.out])
  have HMp := Lib.hid (show L.map Tv.t = l.map Tv.t from hmap)
  have H4 := Lib.hid (And.intro hown hb)
  clear hown hb hmap c0 c1
  go_wp2_with (first
    | ((with_reducible refine wpList_alloc_box _ (o := ⟨some 5, .alloc _, _, _, _, _⟩) rfl _ rfl (lgc lz) zero_lg ?_); intro w5 x5 B5 s5)
    | ((with_reducible refine wpList_store_var _ (o := ⟨none, .store _ (.tmp 5) _, _, _, _, _⟩) rfl 24 _ _ rfl w4.heap.size (lgc ⟨ny, L, A3, c3⟩) (lgc lz) (lg_size _) rfl (lgc_one _) rfl rfl x5 ?_); go_loud (intro w6 x6 hg6; have K6 := below_stored B5 hg6 B5.size (Nat.le_refl _); have H6 : Hid (SeSt w w6 ⟨ny, l, A, cap⟩ y ⟨ny, L, A3, c3⟩ w4.heap.size) := Lib.hid ⟨H3.out.2.1.on (bthen H4.out.2 K6), H3.out.2.2.1.on (bthen H4.out.2 K6), H3.out.2.2.2.1.on (bthen H4.out.2 K6), x6, (H4.out.1.on K6).more (by rw [H3.out.2.2.2.2]; exact Nat.le_refl _), (by have := H4.out.2.size; have := H3.out.2.2.2.2; omega), bthen H3.out.1 (bthen H4.out.2 K6)⟩; obtain ⟨c0, c1⟩ := lg_box H6.out.b0; obtain ⟨d0, d1, d2⟩ := tn_box H6.out.b1; clear x5 B5 s5 x6 hg6 K6; generalize w4.heap.size = bm at *))
    | fail)
  refine (transOf_any ⟨ny, l, A, cap⟩ y.t.id w6 (Nat.le_trans HI.out.few (by decide)) HS.out ((HI.out.on H6.out.below).rd.1)).mono ?_
  rintro e w7 ⟨rfl, hb⟩
  have H7 := Lib.hid (H6.out.on hb)
  clear hb c0 c1 d0 d1 d2 H6
  dsimp only
  cases hh : hit y.t.id (tids l)
  · have HG := Lib.hid (setT_not hh)
    clear hh
    obtain ⟨m0, m1⟩ := lg_box H7.out.m
    simp only [HL.out] at m1
    go_wp2_with (first
      | ((with_reducible refine wpList_store_var _ (o := ⟨none, .store _ (.tmp 4) _, _, _, _, _⟩) rfl 24 _ _ rfl (w.heap.size + 1 + 1) [.int .i64 ny, .slice A3 n c3] (lgc lz) (lg_size2 _ _ _ _) rfl (lg_one2 _ _ _ _) rfl rfl H7.out.b2 ?_); go_loud (intro w8 x8 hg8))
      | fail)
    have j0 := x8.cell 0
    have j1 := x8.cell 1
    have HO := (H7.out.own.box H7.out.b2 lg_ne1 lg_ne2 hg8).more (show w.heap.size ≤ _ by omega)
    have HB := below_stored H7.out.below hg8 H7.out.below.size (by omega)
    exact bodyPost_ret (v := .agg #[.int .i64 ny, .slice A3 n c3]) (by simp [results, Try.results15, go_sem, j0, j1]) rfl ⟨⟨ny, L, A3, c3⟩, by rw [lval2 HL.out], rfl, by rw [HG.out]; exact HMp.out, HO, HB⟩
  · have HG := Lib.hid (fun (z : Tv) (hz : z.t = y.t) => setT_hit HMp.out hz hh)
    have hlt := hit_lt hh
    rw [tids_length] at hlt
    have hpn : pos y.t.id (tids l) < n := by rw [← HN.out]; exact hlt
    clear hh hlt
    generalize pos y.t.id (tids l) = p at *
    have hrow := H7.out.row HL.out
    obtain ⟨g, rfl, _, _⟩ := own_at hrow (by omega)
    have HRow := Lib.hid hrow
    clear hrow
    have hpi : (p : Int) < (n : Int) := by omega
    have hS : ∀ w', Below w7.heap.size w7 w' → w'.cell? ⟨bm, 1, none⟩ = some (.slice (some ⟨g, 0, none⟩) n c3) ∧ w'.cell? ⟨w.heap.size + 1, 0, none⟩ = some (.int .i64 y.t.id) ∧ w'.cell? ⟨w.heap.size + 1, 1, none⟩ = some (.int .i64 y.t.bg) ∧ w'.cell? ⟨w.heap.size + 1, 2, none⟩ = some (.slice y.A y.t.ws.length y.cap) := fun w' hb =>
      ⟨(lg_box (H7.out.on hb).m).2.trans (by rw [← HL.out]), (tn_box (H7.out.on hb).b1).1, (tn_box (H7.out.on hb).b1).2.1, (tn_box (H7.out.on hb).b1).2.2⟩
    have HSO := Lib.hid hS
    have HSd := Lib.hid (hS w7.drew (Below.refl _ _).drew)
    clear hS
    go_wp2_with fail
    refine wp_region_heldT (fun w' => w'.cell? ⟨bm, 1, none⟩ = some (.slice (some ⟨g, 0, none⟩) n c3) ∧ w'.cell? ⟨w.heap.size + 1, 0, none⟩ = some (.int .i64 y.t.id) ∧ w'.cell? ⟨w.heap.size + 1, 1, none⟩ = some (.int .i64 y.t.bg) ∧ w'.cell? ⟨w.heap.size + 1, 2, none⟩ = some (.slice y.A y.t.ws.length y.cap)) 5 (by kernel_rfl) (by kernel_rfl) ?_
    refine heldT_take (i := 0) (oi := ⟨some 18, .fieldAddr _ _ _, _, _, _, _⟩) (v := ?v0) rfl (by kernel_rfl) (by decide) (by kernel_rfl) (by kernel_rfl) (fun _ _ _ h => h) (Or.inl ⟨by rfl, ?hy0⟩) HSd.out ?rest0
    case hy0 =>
      intro w hSw
      obtain ⟨hS0, hS1, hS2, hS3⟩ := hSw
      go_simp
      try with_reducible rfl
    try simp only [Act.put, List.setIfInBounds_toArray, List.set_cons_zero, List.set_cons_succ]
    refine heldT_take (i := 1) (oi := ⟨some 19, .load _ _, _, _, _, _⟩) (v := ?v1) rfl (by kernel_rfl) (by decide) (by kernel_rfl) (by kernel_rfl) (fun _ _ _ h => h) (Or.inl ⟨by rfl, ?hy1⟩) HSd.out ?rest1
    case hy1 =>
      intro w hSw
      obtain ⟨hS0, hS1, hS2, hS3⟩ := hSw
      go_simp
      try with_reducible rfl
    try simp only [Act.put, List.setIfInBounds_toArray, List.set_cons_zero, List.set_cons_succ]
    refine heldT_take (i := 2) (oi := ⟨some 20, .move _, _, _, _, _⟩) (v := ?v2) rfl (by kernel_rfl) (by decide) (by kernel_rfl) (by kernel_rfl) (fun _ _ _ h => h) (Or.inl ⟨by rfl, ?hy2⟩) HSd.out ?rest2
    case hy2 =>
      intro w hSw
      obtain ⟨hS0, hS1, hS2, hS3⟩ := hSw
      go_simp
      try with_reducible rfl
    try simp only [Act.put, List.setIfInBounds_toArray, List.set_cons_zero, List.set_cons_succ]
    refine heldT_take (i := 3) (oi := ⟨some 21, .load _ _, _, _, _, _⟩) (v := ?v3) rfl (by kernel_rfl) (by decide) (by kernel_rfl) (by kernel_rfl) (fun _ _ _ h => h) (Or.inl ⟨by rfl, ?hy3⟩) HSd.out ?rest3
    case hy3 =>
      intro w hSw
      obtain ⟨hS0, hS1, hS2, hS3⟩ := hSw
      go_simp
      try with_reducible rfl
    try simp only [Act.put, List.setIfInBounds_toArray, List.set_cons_zero, List.set_cons_succ]
    refine heldT_one (i := 4) (o := ⟨some 22, .call _, _, _, _, _⟩) rfl (by kernel_rfl) (by decide) (fun K hK => ?_)
    go_simp
    refine (alone_any y w7.drew HY.out.1 ((HY.out.2.below H7.out.below).more H7.out.below.size)).mono ?_
    rintro e w8 ⟨z, rfl, hz, hown, hb⟩
    have B8 : Below w7.heap.size w7 w8 := bthen (Below.refl _ _).drew hb
    have H8 := Lib.hid (And.intro B8 (And.intro hz hown))
    have HR8 := Lib.hid ((H7.out.on B8).row HL.out)
    clear hz hown hb B8 HSd
    go_wp2_with fail
    refine hK.out _ _ (HSO.out _ H8.out.1) ?_
    clear hK K
    try simp only [Act.put, List.setIfInBounds_toArray, List.set_cons_zero, List.set_cons_succ]
    refine heldT_done (by kernel_rfl) ?_
    have hle : Hid (p * 3 + (tnc z).length ≤ n * 3) := Lib.hid (by show p * 3 + 3 ≤ n * 3; omega)
    go_wp2_with (first
      | ((with_reducible refine wpList_store_own (o := ⟨none, .store _ (.tmp 23) _, _, _, _, _⟩) rfl 27 _ _ rfl (w.heap.size + 1 + 1 + 1) g n c3 3 (p * 3) 27 (tns L) (tnc z) (tn_size _) hle.out (tnc_one _) rfl rfl HR8.out ?_); go_loud (intro w9 hown9 hg9; have H9 := Lib.hid (H7.out.put HL.out hpn H8.out.1 H8.out.2.2 hg9 hown9); have HLs := Lib.hid (show (L.set p z).length = n by rw [List.length_set, HL.out]); obtain ⟨m0, m1⟩ := lg_box H9.out.m; simp only [HLs.out] at m1; clear hown9 hg9))
      | ((with_reducible refine wpList_store_var _ (o := ⟨none, .store _ (.tmp 4) _, _, _, _, _⟩) rfl 24 _ _ rfl (w.heap.size + 1 + 1) [.int .i64 ny, .slice (some ⟨g, 0, none⟩) n c3] (lgc lz) (lg_size2 _ _ _ _) rfl (lg_one2 _ _ _ _) rfl rfl H9.out.b2 ?_); go_loud (intro w10 x10 hg10))
      | fail)
    have j0 := x10.cell 0
    have j1 := x10.cell 1
    have HO := (H9.out.own.box H9.out.b2 lg_ne1 lg_ne2 hg10).more (show w.heap.size ≤ _ by omega)
    have HB := below_stored H9.out.below hg10 H9.out.below.size (by omega)
    exact bodyPost_ret (v := .agg #[.int .i64 ny, .slice (some ⟨g, 0, none⟩) n c3]) (by simp [results, Try.results15, go_sem, j0, j1]) rfl ⟨⟨ny, L.set p z, some ⟨g, 0, none⟩, c3⟩, by rw [lval2 HLs.out], rfl, HG.out z H8.out.2.1, HO, HB⟩
end Go.Proofs.Ytiljjgohmjimdaa

/-
  Package trans: ledger.
-/
import Derived.Test.YtiljjgohmjimdaaTrG
namespace Go.Proofs.Ytiljjgohmjimdaa
open Go.RowKit Word Tran
set_option linter.unusedVariables false

abbrev lz : Lv := ⟨0, [], none, 0⟩
theorem zero_lg (w : World) : (zeroValue 24).run Try.prog w = .ok (.agg (lgc lz).toArray) w :=
  (zero_of_info (P := Try.prog) (t := 24) (v := .agg (lgc lz).toArray) (n := 2) (by kernel_rfl)).1 w
/-- what a ledger must be, to be copied: its transactions are readable, and few -/
structure LIn (w : World) (x : Lv) : Prop where
  few : x.l.length ≤ 10000
  rd : TRd w w.heap.size x.A x.l
  each : ∀ y ∈ x.l, TIn y.t
theorem LIn.on {w w' : World} {x : Lv} (h : LIn w x) (hb : Below w.heap.size w w') : LIn w' x := ⟨h.few, h.rd.on hb, h.each⟩
/-- a ledger that the call made -/
structure LOwn (w : World) (base : Nat) (x : Lv) : Prop where
  own : TOwn w base x.v x.l
theorem LOwn.on {w w' : World} {base : Nat} {x : Lv} (h : LOwn w base x) (hb : Below w.heap.size w w') : LOwn w' base x := ⟨h.own.on hb⟩
theorem LOwn.more {w : World} {base base' : Nat} {x : Lv} (h : LOwn w base x) (hb : base' ≤ base) : LOwn w base' x := ⟨⟨own_base0 h.own.row hb, fun y hy => own_base0 (h.own.each y hy) hb, h.own.apart⟩⟩
theorem LOwn.inn {w : World} {base : Nat} {x : Lv} (h : LOwn w base x) (hl : x.l.length ≤ 10000) (hi : ∀ y ∈ x.l, TIn y.t) : LIn w x := ⟨hl, h.own.rd, hi⟩
/-- what stands in memory while ledgers are copied -/
structure LeSt (w wr : World) (x : Lv) (n g k : Nat) (L : List Tv) : Prop where
  own : TOwn wr w.heap.size (.slice (some ⟨g, 0, none⟩) n n) (L ++ List.replicate (n - k) tz)
  same : L.map Tv.t = (x.l.take k).map Tv.t
  len : L.length = k
  b0 : Box wr w.heap.size 24 (lgc x)
  b1 : Box wr (w.heap.size + 1) 24 (lgc lz)
  below : Below w.heap.size w wr
theorem LeSt.on {w wr w' : World} {x : Lv} {n g k : Nat} {L : List Tv} (h : LeSt w wr x n g k L) (hb : Below wr.heap.size wr w') : LeSt w w' x n g k L := ⟨h.own.on hb, h.same, h.len, h.b0.on hb, h.b1.on hb, bthen h.below hb⟩
theorem LeSt.put {w wr w2 w3 : World} {x : Lv} {n g k : Nat} {L : List Tv} {y z : Tv} (h : LeSt w wr x n g k L) (hk : k < n) (hy : x.l[k]? = some y) (hb : Below wr.heap.size wr w2) (hz : z.t = y.t) (hx : w2.ownsRow wr.heap.size 49 34 z.v z.t.ws.length (tws z.t.ws))
    (hg : w2.grownBy w3 (some g)) (hr : w3.ownsRow w.heap.size 27 3 (.slice (some ⟨g, 0, none⟩) n n) n (lay (tns (L ++ List.replicate (n - k) tz)) (k * 3) (tnc z))) : LeSt w w3 x n g (k + 1) (L ++ [z]) := by
  have h2 := h.on hb
  have hlen : (L ++ List.replicate (n - k) tz).length = n := by rw [List.length_append, h.len, List.length_replicate]; omega
  have e : (L ++ List.replicate (n - k) tz).set k z = (L ++ [z]) ++ List.replicate (n - (k + 1)) tz := by
    rw [List.set_append_right _ _ (by rw [h.len]; exact Nat.le_refl _), h.len, Nat.sub_self, show n - k = (n - (k + 1)) + 1 by omega, List.replicate_succ, List.set_cons_zero, List.append_assoc]
    rfl
  have hset := h2.own.set (k := k) (x := z) hx h.below.size (fun y hy b hb => (h.own.each y hy).lt b hb |>.2) hg (by rw [hlen, ← tns_lay _ _ _ (by omega)]; exact hr)
  rw [e] at hset
  have hgn : w.heap.size ≠ g ∧ w.heap.size + 1 ≠ g := by
    refine ⟨fun e => ?_, fun e => ?_⟩
    · exact h2.b0.ne_row h2.own.row rfl (by decide) e
    · exact h2.b1.ne_row h2.own.row rfl (by decide) e
  refine ⟨hset, ?_, by rw [List.length_append, h.len]; rfl, h2.b0.grown hg hgn.1, h2.b1.grown hg hgn.2, below_stored h2.below hg h2.below.size (h2.own.row.lt g rfl).1⟩
  rw [List.map_append, List.map_singleton, h.same, hz, List.take_add_one, hy]
  simp
set_option maxRecDepth 100000 in
set_option maxHeartbeats 4000000 in
theorem ledger_any (x : Lv) (w : World) (hi : LIn w x) :
    Calls Try.prog 22 #[lval x] w fun e w' => ∃ y : Lv, e = .returned (lval y) ∧ y.nx = x.nx ∧ y.l.map Tv.t = x.l.map Tv.t ∧ LOwn w' w.heap.size y ∧ Below w.heap.size w w' := by
  obtain ⟨nx, l, A, cap⟩ := x
  have HI := Lib.hid hi
  clear hi
  obtain ⟨n, hn⟩ : ∃ n, l.length = n := ⟨_, rfl⟩
  have HN := Lib.hid hn
  have HM : n ≤ 10000 := by have := HI.out.few; have h2 : l.length ≤ 10000 := this; omega
  obtain ⟨ti, hti, hz1, hsize, hby⟩ := info_parts (P := Try.prog) (e := 27) (z := .agg (tnc tz).toArray) (size := 3) (bytes := 40) (by kernel_rfl)
  have HT := Lib.hid (And.intro hti (And.intro hz1 (And.intro hsize hby)))
  clear hn hti hz1 hsize hby
  go_enter Try.func22, Try.ntmps22
  go_wp2_with (first
    | ((with_reducible refine wpList_box_box _ (o := ⟨some 1, .box _ _, _, _, _, _⟩) rfl _ _ rfl (lgc ⟨nx, l, A, cap⟩) rfl ?_); intro w1 x1 B1 s1)
    | ((with_reducible refine wpList_alloc_box _ (o := ⟨some 2, .alloc _, _, _, _, _⟩) rfl _ rfl (lgc lz) zero_lg ?_); intro w2 x2 B2 s2; obtain ⟨c0, c1⟩ := lg_box (x1.on B2); simp only [HN.out] at c1; rw [s1] at x2; have H2 := Lib.hid (And.intro (bthen B1 B2) (And.intro (x1.on B2) x2)); rw [s1]; clear x1 B1 s1 x2 B2 s2)
    | ((with_reducible refine wpList_make_full _ (o := ⟨some 9, .makeSlice _ _ _, _, _, _, _⟩) rfl _ _ _ rfl w.heap.size 27 ti (.agg (tnc tz).toArray) 3 Try.underlying22 HT.out.1 HT.out.2.1 HT.out.2.2.1 .i64 .i64 (n : Int) (n : Int) n rfl rfl rfl rfl (by rw [HT.out.2.2.2]; omega) (by unfold maxLen; omega) H2.out.1.size ?_); go_loud (intro w3 hown hg; rw [made_tns] at hown; have hb3 : Below w2.heap.size w2 w3 := (Below.refl _ _).grown hg (Nat.le_refl _) (fun k hk => by cases hk); have H3 : Hid (LeSt w w3 ⟨nx, l, A, cap⟩ n w2.heap.size 0 []) := Lib.hid ⟨TOwn.zeros hown, rfl, rfl, H2.out.2.1.on hb3, H2.out.2.2.on hb3, bthen H2.out.1 hb3⟩; have c1' : w3.cell? ⟨w.heap.size, 1, none⟩ = some (.slice A n cap) := by have h := (lg_box H3.out.b0).2; simp only [HN.out] at h; exact h))
    | fail)
  clear hown hg hb3 c0 c1 c1' H2
  generalize w2.heap.size = g at *
  go_loopw [13] (fun v13 wr => ∃ (k : Nat) (L : List Tv), v13 = .int .i64 k ∧ k ≤ n ∧ Hid (LeSt w wr ⟨nx, l, A, cap⟩ n g k L)) (fun v13 _ => n - (intOf v13).toNat)
  case atStart => exact ⟨0, [], rfl, by omega, H3⟩
  case round =>
    obtain ⟨k, L, rfl, hk, H4⟩ := hrel
    clear H3
    by_cases hlt : k < n
    · have hkl : k < l.length := by rw [HN.out]; exact hlt
      have hlk : l[k]? = some (l[k]'hkl) := List.getElem?_eq_getElem hkl
      obtain ⟨ad, rfl, hadb, e0, e1, e2⟩ := tn_at (HI.out.rd.below H4.out.below).1 hlk
      have HX := Lib.hid (And.intro hlk (And.intro (HI.out.each _ (List.getElem_mem hkl)) (HI.out.rd.2 _ (List.getElem_mem hkl))))
      generalize l[k]'hkl = y at *
      clear hlk hkl hadb
      have hki : (k : Int) < (n : Int) := by omega
      go_wp2_with (first
        | ((with_reducible refine wpList_alloc_box _ (o := ⟨some 5, .alloc _, _, _, _, _⟩) rfl _ rfl (tnc tz) zero_tn ?_); intro w5 x5 B5 s5)
        | ((with_reducible refine wpList_store_var _ (o := ⟨none, .store _ (.tmp 5) _, _, _, _, _⟩) rfl 27 _ _ rfl wr.heap.size (tnc y) (tnc tz) (tn_size _) rfl (tnc_one _) rfl rfl x5 ?_); go_loud (intro w6 x6 hg6; obtain ⟨k0, k1, k2⟩ := tn_box x6; have H6 := Lib.hid (below_stored B5 hg6 B5.size (Nat.le_refl _)); clear x5 B5 s5 x6 hg6 e0 e1 e2))
        | fail)
      refine (alone_any y w6 HX.out.2.1 ((HX.out.2.2.below (bthen H4.out.below H6.out)).more (bthen H4.out.below H6.out).size)).mono ?_
      rintro e w7 ⟨z, rfl, hz, hown, hb⟩
      have H7 := Lib.hid (And.intro (bthen H6.out hb) (And.intro hz (own_base0 hown H6.out.size)))
      have HS7 := Lib.hid (H4.out.on H7.out.1)
      have hrow := Lib.hid HS7.out.own.row
      have hlen : Hid ((L ++ List.replicate (n - k) tz).length = n) := Lib.hid (by rw [List.length_append, H4.out.len, List.length_replicate]; omega)
      rw [hlen.out] at hrow
      have hle : Hid (k * 3 + (tnc z).length ≤ n * 3) := Lib.hid (by show k * 3 + 3 ≤ n * 3; omega)
      clear hz hown hb k0 k1 k2
      go_wp2_with (first
        | ((with_reducible refine wpList_store_own (o := ⟨none, .store _ (.tmp 22) _, _, _, _, _⟩) rfl 27 _ _ rfl w.heap.size g n n 3 (k * 3) 27 (tns (L ++ List.replicate (n - k) tz)) (tnc z) (tn_size _) hle.out (tnc_one _) rfl rfl hrow.out ?_); go_loud (intro w8 hown8 hg8; have H8 := Lib.hid (H4.out.put hlt HX.out.1 H7.out.1 H7.out.2.1 H7.out.2.2 hg8 hown8); clear hown8 hg8))
        | fail)
      go_roundw
      case rel => exact ⟨k + 1, L ++ [z], by go_num, by omega, H8⟩
      case measure => first | (simp [intOf]; done) | (simp [intOf]; omega)
    · obtain rfl : n = k := by omega
      have hL := Lib.hid (show L ++ List.replicate (n - n) tz = L by rw [Nat.sub_self]; simp)
      have hown := H4.out.own
      rw [hL.out] at hown
      have hlk := H4.out.len
      have hg : wr.grownBy (wr.setCell ⟨w.heap.size, 1, none⟩ (.slice (some ⟨g, 0, none⟩) n n)) (some w.heap.size) :=
        ⟨rfl, rfl, rfl, by simp, fun k _ hk => heap_setCell_other _ _ _ _ (by intro e; exact hk (by simp [e]))⟩
      have HE : Hid (Box (wr.setCell ⟨w.heap.size, 1, none⟩ (.slice (some ⟨g, 0, none⟩) n n)) w.heap.size 24 (lgc ⟨nx, L, some ⟨g, 0, none⟩, n⟩) ∧ Box (wr.setCell ⟨w.heap.size, 1, none⟩ (.slice (some ⟨g, 0, none⟩) n n)) (w.heap.size + 1) 24 (lgc lz) ∧
          LOwn (wr.setCell ⟨w.heap.size, 1, none⟩ (.slice (some ⟨g, 0, none⟩) n n)) w.heap.size ⟨nx, L, some ⟨g, 0, none⟩, n⟩ ∧ Below w.heap.size w (wr.setCell ⟨w.heap.size, 1, none⟩ (.slice (some ⟨g, 0, none⟩) n n))) := Lib.hid ⟨by
        have h := H4.out.b0.set 1 (.slice (some ⟨g, 0, none⟩) n n)
        rw [← hlk] at h ⊢
        exact h, H4.out.b1.grown hg (by omega), ⟨by
        show TOwn _ _ (.slice (some ⟨g, 0, none⟩) L.length n) L
        rw [hlk]
        exact hown.beside hg (fun b hb e => by
          injection e with e
          subst e
          exact H4.out.b0.ne_row hown.row hb (by decide) rfl) (fun y hy b hb e => by
          injection e with e
          subst e
          exact H4.out.b0.ne_row (hown.each y hy) hb (by decide) rfl)⟩, below_stored H4.out.below hg H4.out.below.size (Nat.le_refl _)⟩
      obtain ⟨k0, k1⟩ := lg_box HE.out.1
      simp only [hlk] at k1
      have c1' : wr.cell? ⟨w.heap.size, 1, none⟩ = some (.slice A n cap) := by have h := (lg_box H4.out.b0).2; simp only [HN.out] at h; exact h
      have f1' : wr.frozen? ⟨w.heap.size, 1, none⟩ = false := H4.out.b0.frozen 1
      have hlgv : Hid (lval ⟨nx, L, some ⟨g, 0, none⟩, n⟩ = .agg #[.int .i64 nx, .slice (some ⟨g, 0, none⟩) n n]) := Lib.hid (by show Value.agg #[.int .i64 nx, .slice (some ⟨g, 0, none⟩) L.length n] = _; rw [hlk])
      have hsz : Hid ((Try.prog.info? 24).map (·.size) = some [Value.int .i64 nx, .slice (some ⟨g, 0, none⟩) n n].length) := Lib.hid (lg_size lz)
      have hone : Hid (∀ u ∈ [Value.int .i64 nx, .slice (some ⟨g, 0, none⟩) n n], u.oneCell' = true) := Lib.hid (by
        intro u hu
        simp at hu
        rcases hu with rfl | rfl <;> rfl)
      have HSm := Lib.hid (show L.map Tv.t = l.map Tv.t by rw [H4.out.same, List.take_of_length_le (by rw [HN.out]; exact Nat.le_refl _)])
      clear hown hlk hg
      go_wp2_with (first
        | ((with_reducible refine wpList_store_var _ (o := ⟨none, .store _ (.tmp 2) _, _, _, _, _⟩) rfl 24 _ _ rfl (w.heap.size + 1) [.int .i64 nx, .slice (some ⟨g, 0, none⟩) n n] (lgc lz) hsz.out rfl hone.out rfl rfl HE.out.2.1 ?_); go_loud (intro w7 x7 hg7))
        | fail)
      have HO : LOwn w7 w.heap.size ⟨nx, L, some ⟨g, 0, none⟩, n⟩ := ⟨HE.out.2.2.1.own.beside hg7 (fun b hb e => by
        injection e with e
        subst e
        exact HE.out.2.1.ne_row HE.out.2.2.1.own.row hb (by decide) rfl) (fun y hy b hb e => by
        injection e with e
        subst e
        exact HE.out.2.1.ne_row (HE.out.2.2.1.own.each y hy) hb (by decide) rfl)⟩
      have HB := below_stored HE.out.2.2.2 hg7 HE.out.2.2.2.size (by omega)
      have j0 := x7.cell 0
      have j1 := x7.cell 1
      exact bodyPost_ret (v := .agg #[.int .i64 nx, .slice (some ⟨g, 0, none⟩) n n]) (by simp [results, Try.results22, go_sem, j0, j1]) rfl ⟨_, by rw [hlgv.out], rfl, HSm.out, HO, HB⟩
end Go.Proofs.Ytiljjgohmjimdaa

/-
  Package trans: Drop, Oldest.
-/
import Derived.Test.YtiljjgohmjimdaaTrL
namespace Go.Proofs.Ytiljjgohmjimdaa
open Go.RowKit Word Tran
set_option linter.unusedVariables false

theorem TOwn.erase {w w' : World} {base g n c k : Nat} {l : List Tv} (h : TOwn w base (.slice (some ⟨g, 0, none⟩) n c) l) (hg : w.grownBy w' (some g))
    (hr : w'.ownsRow base 27 3 (.slice (some ⟨g, 0, none⟩) (l.take k ++ l.drop (k + 1)).length c) (l.take k ++ l.drop (k + 1)).length (tns (l.take k ++ l.drop (k + 1)))) : TOwn w' base (.slice (some ⟨g, 0, none⟩) (l.take k ++ l.drop (k + 1)).length c) (l.take k ++ l.drop (k + 1)) := by
  have hsub : (l.take k ++ l.drop (k + 1)).Sublist l := by rw [← List.eraseIdx_eq_take_drop_succ]; exact List.eraseIdx_sublist l k
  refine ⟨hr, fun y hy => ?_, h.apart.sublist hsub⟩
  have hy2 := hsub.subset hy
  exact trow_kept (h.each y hy2) hg fun b hb e => ttypes_apart h.row (h.each y hy2) b e hb
theorem MSt.del {w wr w' : World} {x : Lv} {nx : Int} {L : List Tv} {c n bm g k : Nat} (h : MSt w wr x ⟨nx, L, some ⟨g, 0, none⟩, c⟩ bm) (hn : L.length = n) (hk : k < n) (hg : wr.grownBy w' (some g))
    (hr : w'.ownsRow w.heap.size 27 3 (.slice (some ⟨g, 0, none⟩) (n - 1) c) (n - 1) (tns (L.take k ++ L.drop (k + 1)))) : MSt w (w'.setCell ⟨bm, 1, none⟩ (.slice (some ⟨g, 0, none⟩) (n - 1) c)) x ⟨nx, L.take k ++ L.drop (k + 1), some ⟨g, 0, none⟩, c⟩ bm := by
  have hlen : (L.take k ++ L.drop (k + 1)).length = n - 1 := by simp; omega
  have hto := h.own.own.erase (k := k) hg (by rw [hlen]; exact hr)
  have keepB : ∀ {b cs}, Box wr b 24 cs → Box w' b 24 cs := fun {b cs} hx => by
    refine hx.same (hg.block b hx.lt fun e => ?_)
    exact hx.ne_row h.own.own.row e.symm lg_ne1 rfl
  have hb' : Below w.heap.size w w' := below_stored h.below hg h.below.size (h.own.own.row.lt g rfl).1
  have hm := keepB h.m
  have hf := h.far
  refine ⟨(keepB h.b0).grown set_grown (by omega), (keepB h.b1).grown set_grown (by omega), ?_, ?_, h.far, below_stored hb' set_grown hb'.size (by omega)⟩
  · have h3 := hm.set 1 (.slice (some ⟨g, 0, none⟩) (n - 1) c)
    show Box _ _ _ [.int .i64 nx, .slice (some ⟨g, 0, none⟩) (L.take k ++ L.drop (k + 1)).length c]
    rw [hlen]
    exact h3
  · have ho : LOwn w' w.heap.size ⟨nx, L.take k ++ L.drop (k + 1), some ⟨g, 0, none⟩, c⟩ := ⟨hto⟩
    exact ho.box hm lg_ne1 lg_ne2 set_grown
theorem dropT_hit {l L : List Tv} {id : Int} (hm : L.map Tv.t = l.map Tv.t) (hh : hit id (tids l) = true) : (L.take (pos id (tids l)) ++ L.drop (pos id (tids l) + 1)).map Tv.t = dropT id (l.map Tv.t) := by
  unfold dropT
  have h2 : hit id (ids (l.map Tv.t)) = true := hh
  rw [if_pos h2, List.map_append, List.map_take, List.map_drop, hm]
  rfl
theorem dropT_not {l : List Tv} {id : Int} (hh : hit id (tids l) = false) : dropT id (l.map Tv.t) = l.map Tv.t := by
  unfold dropT
  have h2 : hit id (ids (l.map Tv.t)) = false := hh
  rw [h2]
  rfl
/-- what Drop answers -/
def DrPost (w : World) (x : Lv) (id : Int) (e : Ending) (w' : World) : Prop :=
  ∃ z : Lv, e = .returned (.tuple #[lval z, .int .i64 (if (gett id (x.l.map Tv.t)).isSome then 0 else 9)]) ∧ z.nx = x.nx ∧ z.l.map Tv.t = dropT id (x.l.map Tv.t) ∧ LOwn w' w.heap.size z ∧ Below w.heap.size w w'
set_option maxRecDepth 100000 in
set_option maxHeartbeats 4000000 in
theorem drop_any (x : Lv) (id : Int) (w : World) (hi : LIn w x) (hs : Rise (tids x.l)) :
    Calls Try.prog 12 #[lval x, .int .i64 id] w (DrPost w x id) := by
  obtain ⟨nx, l, A, cap⟩ := x
  have HI := Lib.hid hi
  have HS := Lib.hid (show Rise (tids l) from hs)
  clear hi hs
  obtain ⟨n, hn⟩ : ∃ n, l.length = n := ⟨_, rfl⟩
  have HN := Lib.hid hn
  have HM : n ≤ 10000 := by have := HI.out.few; have h2 : l.length ≤ 10000 := this; omega
  clear hn
  go_enter Try.func12, Try.ntmps12
  go_wp2_with (first
    | ((with_reducible refine wpList_box_box _ (o := ⟨some 2, .box _ _, _, _, _, _⟩) rfl _ _ rfl (lgc ⟨nx, l, A, cap⟩) rfl ?_); intro w1 x1 B1 s1)
    | ((with_reducible refine wpList_alloc_box _ (o := ⟨some 4, .alloc _, _, _, _, _⟩) rfl _ rfl (lgc lz) zero_lg ?_); intro w2 x2 B2 s2; obtain ⟨c0, c1⟩ := lg_box (x1.on B2); rw [s1] at x2 s2; have H2 := Lib.hid (And.intro (bthen B1 B2) (And.intro (x1.on B2) (And.intro x2 s2))); rw [s1]; clear x1 B1 s1 x2 B2 s2)
    | fail)
  refine (ledger_any ⟨nx, l, A, cap⟩ w2 (HI.out.on H2.out.1)).mono ?_
  rintro e w3 ⟨⟨ny, L, A3, c3⟩, rfl, hny, hmap, hown, hb⟩
  obtain rfl : ny = nx := hny
  have HL := Lib.hid (show L.length = n by have := map_len hmap; have h2 : L.length = l.length := this; rw [h2, HN.out])
  have HMp := Lib.hid (show L.map Tv.t = l.map Tv.t from hmap)
  have H3 := Lib.hid (And.intro hown hb)
  clear hown hb hmap c0 c1
  go_wp2_with (first
    | ((with_reducible refine wpList_alloc_box _ (o := ⟨some 6, .alloc _, _, _, _, _⟩) rfl _ rfl (lgc lz) zero_lg ?_); intro w5 x5 B5 s5)
    | ((with_reducible refine wpList_store_var _ (o := ⟨none, .store _ (.tmp 6) _, _, _, _, _⟩) rfl 24 _ _ rfl w3.heap.size (lgc ⟨ny, L, A3, c3⟩) (lgc lz) (lg_size _) rfl (lgc_one _) rfl rfl x5 ?_); go_loud (intro w6 x6 hg6; have K6 := below_stored B5 hg6 B5.size (Nat.le_refl _); have H6 : Hid (MSt w w6 ⟨ny, l, A, cap⟩ ⟨ny, L, A3, c3⟩ w3.heap.size) := Lib.hid ⟨H2.out.2.1.on (bthen H3.out.2 K6), H2.out.2.2.1.on (bthen H3.out.2 K6), x6, (H3.out.1.on K6).more H2.out.1.size, (by have := H3.out.2.size; have := H2.out.2.2.2; omega), bthen H2.out.1 (bthen H3.out.2 K6)⟩; obtain ⟨c0, c1⟩ := lg_box H6.out.b0; clear x5 B5 s5 x6 hg6 K6; generalize w3.heap.size = bm at *))
    | fail)
  refine (transOf_any ⟨ny, l, A, cap⟩ id w6 (Nat.le_trans HI.out.few (by decide)) HS.out ((HI.out.on H6.out.below).rd.1)).mono ?_
  rintro e w7 ⟨rfl, hb⟩
  have H7 := Lib.hid (H6.out.on hb)
  clear hb c0 c1 H6
  dsimp only
  obtain ⟨m0, m1⟩ := lg_box H7.out.m
  simp only [HL.out] at m1
  cases hh : hit id (tids l)
  · have HG := Lib.hid (And.intro (dropT_not hh) (hit_not hh))
    clear hh
    go_wp2_with (first
      | ((with_reducible refine wpList_store_var _ (o := ⟨none, .store _ (.tmp 4) _, _, _, _, _⟩) rfl 24 _ _ rfl (w.heap.size + 1) [.int .i64 ny, .slice A3 n c3] (lgc lz) (lg_size2 _ _ _ _) rfl (lg_one2 _ _ _ _) rfl rfl H7.out.b1 ?_); go_loud (intro w8 x8 hg8))
      | fail)
    have j0 := x8.cell 0
    have j1 := x8.cell 1
    have HO := H7.out.own.box H7.out.b1 lg_ne1 lg_ne2 hg8
    have HB := below_stored H7.out.below hg8 H7.out.below.size (by omega)
    exact bodyPost_ret (v := .tuple #[.agg #[.int .i64 ny, .slice A3 n c3], .int .i64 9]) (by simp [results, Try.results12, go_sem, j0, j1]) rfl ⟨⟨ny, L, A3, c3⟩, by rw [lval2 HL.out, HG.out.2]; rfl, rfl, by rw [HG.out.1]; exact HMp.out, HO, HB⟩
  · have HG := Lib.hid (And.intro (dropT_hit HMp.out hh) (hit_at hh))
    have hlt := hit_lt hh
    rw [tids_length] at hlt
    have hpn : pos id (tids l) < n := by rw [← HN.out]; exact hlt
    clear hh hlt
    generalize pos id (tids l) = p at *
    have hrow := H7.out.row HL.out
    obtain ⟨g, rfl, _, _⟩ := own_at hrow (by omega)
    have HRow := Lib.hid hrow
    clear hrow
    go_wp2_with fail
    refine (sdel_any g n c3 p w.heap.size L w7 HRow.out HL.out hpn HM).mono ?_
    rintro e w8 ⟨rfl, hown8, hg8⟩
    have H8 := Lib.hid (H7.out.del HL.out hpn hg8 hown8)
    have hm8 : Box w8 bm 24 (lgc ⟨ny, L, some ⟨g, 0, none⟩, c3⟩) := H7.out.m.same (hg8.block bm H7.out.m.lt fun e => H7.out.m.ne_row HRow.out e.symm lg_ne1 rfl)
    have m1' := hm8.cell 1
    have f1' := hm8.frozen 1
    have HLd := Lib.hid (show (L.take p ++ L.drop (p + 1)).length = n - 1 by have := HL.out; simp; omega)
    obtain ⟨k0, k1⟩ := lg_box H8.out.m
    simp only [HLd.out] at k1
    clear hown8 hg8 hm8 m0 m1
    generalize n - 1 = q at *
    go_wp2_with (first
      | ((with_reducible refine wpList_store_var _ (o := ⟨none, .store _ (.tmp 4) _, _, _, _, _⟩) rfl 24 _ _ rfl (w.heap.size + 1) [.int .i64 ny, .slice (some ⟨g, 0, none⟩) q c3] (lgc lz) (lg_size2 _ _ _ _) rfl (lg_one2 _ _ _ _) rfl rfl H8.out.b1 ?_); go_loud (intro w9 x9 hg9))
      | fail)
    have j0 := x9.cell 0
    have j1 := x9.cell 1
    have HO := H8.out.own.box H8.out.b1 lg_ne1 lg_ne2 hg9
    have HB := below_stored H8.out.below hg9 H8.out.below.size (by omega)
    exact bodyPost_ret (v := .tuple #[.agg #[.int .i64 ny, .slice (some ⟨g, 0, none⟩) q c3], .int .i64 0]) (by simp [results, Try.results12, go_sem, j0, j1]) rfl ⟨⟨ny, L.take p ++ L.drop (p + 1), some ⟨g, 0, none⟩, c3⟩, by
      obtain ⟨y, _, hy⟩ := HG.out.2
      rw [lval2 HLd.out, hy]
      rfl, rfl, HG.out.1, HO, HB⟩
end Go.Proofs.Ytiljjgohmjimdaa

/-
  Package trans: Begin, Get.
-/
import Derived.Test.YtiljjgohmjimdaaTrH
namespace Go.Proofs.Ytiljjgohmjimdaa
open Go.RowKit Word Tran
set_option linter.unusedVariables false

theorem LOwn.box {w w' : World} {base b : Nat} {T : TypeId} {cs : List Value} {y : Lv} (h : LOwn w base y) (x : Box w b T cs) (h1 : T ≠ 27) (h2 : T ≠ 49) (hg : w.grownBy w' (some b)) : LOwn w' base y :=
  ⟨h.own.beside hg (fun c hb e => by
    injection e with e
    subst e
    exact x.ne_row h.own.row hb h1 rfl) (fun z hz c hb e => by
    injection e with e
    subst e
    exact x.ne_row (h.own.each z hz) hb h2 rfl)⟩
theorem lg_ne1 : 24 ≠ 27 := by decide
theorem lg_ne2 : 24 ≠ 49 := by decide
theorem set_grown {w : World} {b k : Nat} {v : Value} : w.grownBy (w.setCell ⟨b, k, none⟩ v) (some b) :=
  ⟨rfl, rfl, rfl, by simp, fun j _ hk => heap_setCell_other _ _ _ _ (by intro e; exact hk (by simp [e]))⟩
theorem map_len {l m : List Tv} (h : l.map Tv.t = m.map Tv.t) : l.length = m.length := by
  have := congrArg List.length h
  simpa using this
theorem lg_size2 (a : Int) (A : Option Addr) (n c : Nat) : (Try.prog.info? 24).map (·.size) = some [Value.int .i64 a, .slice A n c].length := lg_size lz
theorem lg_one2 (a : Int) (A : Option Addr) (n c : Nat) : ∀ u ∈ [Value.int .i64 a, .slice A n c], u.oneCell' = true := by
  intro u hu
  simp at hu
  rcases hu with rfl | rfl <;> rfl
theorem lval2 {a : Int} {L : List Tv} {A : Option Addr} {c n : Nat} (h : L.length = n) : lval ⟨a, L, A, c⟩ = .agg #[.int .i64 a, .slice A n c] := by
  subst h
  rfl
/-- what stands in memory behind the copy of a ledger -/
structure MSt (w wr : World) (x y : Lv) (bm : Nat) : Prop where
  b0 : Box wr w.heap.size 24 (lgc x)
  b1 : Box wr (w.heap.size + 1) 24 (lgc lz)
  m : Box wr bm 24 (lgc y)
  own : LOwn wr w.heap.size y
  far : w.heap.size + 1 < bm
  below : Below w.heap.size w wr
theorem MSt.on {w wr w' : World} {x y : Lv} {bm : Nat} (h : MSt w wr x y bm) (hb : Below wr.heap.size wr w') : MSt w w' x y bm := ⟨h.b0.on hb, h.b1.on hb, h.m.on hb, h.own.on hb, h.far, bthen h.below hb⟩
/-- one transaction more, in the row and then in m -/
theorem MSt.more {w wr w' : World} {x : Lv} {nx : Int} {L : List Tv} {A A' : Option Addr} {c c' n bm : Nat} {z : Tv} (h : MSt w wr x ⟨nx, L, A, c⟩ bm) (hn : L.length = n) (hz : z.v.ownBlock = none) (hz0 : wr.ownsRow w.heap.size 49 34 z.v z.t.ws.length (tws z.t.ws)) (hg : wr.grownBy w' (Value.slice A n c).ownBlock)
    (hr : w'.ownsRow w.heap.size 27 3 (.slice A' (n + 1) c') (n + 1) (tns L ++ tnc z)) : MSt w (w'.setCell ⟨bm, 1, none⟩ (.slice A' (n + 1) c')) x ⟨nx, L ++ [z], A', c'⟩ bm := by
  subst hn
  have hto := h.own.own.more hg hz0 (fun y hy b hb e => by rw [hz] at e; cases e) hr
  have keepB : ∀ {b cs}, Box wr b 24 cs → Box w' b 24 cs := fun {b cs} hx => by
    refine hx.same (hg.block b hx.lt fun e => ?_)
    exact hx.ne_row h.own.own.row e.symm lg_ne1 rfl
  have hb' : Below w.heap.size w w' := h.below.grown hg h.below.size fun k hk => (h.own.own.row.lt k hk).1
  have hlen : (L ++ [z]).length = L.length + 1 := by simp
  have hm := keepB h.m
  have hf := h.far
  refine ⟨(keepB h.b0).grown set_grown (by omega), (keepB h.b1).grown set_grown (by omega), ?_, ?_, h.far, below_stored hb' set_grown hb'.size (by omega)⟩
  · have h3 := hm.set 1 (.slice A' (L.length + 1) c')
    show Box _ _ _ [.int .i64 nx, .slice A' (L ++ [z]).length c']
    rw [hlen]
    exact h3
  · have ho : LOwn w' w.heap.size ⟨nx, L ++ [z], A', c'⟩ := ⟨by show TOwn _ _ (.slice A' (L ++ [z]).length c') _; rw [hlen]; exact hto⟩
    exact ho.box hm lg_ne1 lg_ne2 set_grown
theorem MSt.row {w wr : World} {x : Lv} {nx : Int} {L : List Tv} {A : Option Addr} {c n bm : Nat} (h : MSt w wr x ⟨nx, L, A, c⟩ bm) (hn : L.length = n) : wr.ownsRow w.heap.size 27 3 (.slice A n c) n (tns L) := by
  subst hn
  exact h.own.own.row
theorem MSt.next {w wr : World} {x : Lv} {nx nx' : Int} {L : List Tv} {A : Option Addr} {c bm : Nat} (h : MSt w wr x ⟨nx, L, A, c⟩ bm) : MSt w (wr.setCell ⟨bm, 0, none⟩ (.int .i64 nx')) x ⟨nx', L, A, c⟩ bm := by
  have hf := h.far
  exact ⟨h.b0.grown set_grown (by omega), h.b1.grown set_grown (by omega), h.m.set 0 _, ⟨(h.own.box h.m lg_ne1 lg_ne2 set_grown).own⟩, h.far, below_stored h.below set_grown h.below.size (by omega)⟩
/-- what Begin answers -/
def BgPost (w : World) (x : Lv) (now : Int) (e : Ending) (w' : World) : Prop :=
  ∃ y : Lv, LOwn w' w.heap.size y ∧ Below w.heap.size w w' ∧
    ((16 ≤ x.l.length ∧ e = .returned (.tuple #[lval y, .int .i64 0, .int .i64 13]) ∧ y.nx = x.nx ∧ y.l.map Tv.t = x.l.map Tv.t) ∨
     (x.l.length < 16 ∧ e = .returned (.tuple #[lval y, .int .i64 x.nx, .int .i64 0]) ∧ y.nx = x.nx + 1 ∧ y.l.map Tv.t = x.l.map Tv.t ++ [⟨x.nx, now, []⟩]))
set_option maxRecDepth 100000 in
set_option maxHeartbeats 4000000 in
theorem begin_any (x : Lv) (now : Int) (w : World) (hi : LIn w x) (hnx : 0 ≤ x.nx ∧ x.nx ≤ 1099511627776) :
    Calls Try.prog 8 #[lval x, .int .i64 now] w (BgPost w x now) := by
  obtain ⟨nx, l, A, cap⟩ := x
  have HI := Lib.hid hi
  have hnx : 0 ≤ nx ∧ nx ≤ 1099511627776 := hnx
  clear hi
  obtain ⟨n, hn⟩ : ∃ n, l.length = n := ⟨_, rfl⟩
  have HN := Lib.hid hn
  have HM : n ≤ 10000 := by have := HI.out.few; have h2 : l.length ≤ 10000 := this; omega
  have HNX := Lib.hid hnx
  clear hn
  go_enter Try.func8, Try.ntmps8
  go_wp2_with (first
    | ((with_reducible refine wpList_box_box _ (o := ⟨some 2, .box _ _, _, _, _, _⟩) rfl _ _ rfl (lgc ⟨nx, l, A, cap⟩) rfl ?_); intro w1 x1 B1 s1)
    | ((with_reducible refine wpList_alloc_box _ (o := ⟨some 4, .alloc _, _, _, _, _⟩) rfl _ rfl (lgc lz) zero_lg ?_); intro w2 x2 B2 s2; obtain ⟨c0, c1⟩ := lg_box (x1.on B2); rw [s1] at x2 s2; have H2 := Lib.hid (And.intro (bthen B1 B2) (And.intro (x1.on B2) (And.intro x2 s2))); rw [s1]; clear x1 B1 s1 x2 B2 s2)
    | fail)
  refine (ledger_any ⟨nx, l, A, cap⟩ w2 (HI.out.on H2.out.1)).mono ?_
  rintro e w3 ⟨⟨ny, L, A3, c3⟩, rfl, hny, hmap, hown, hb⟩
  obtain rfl : ny = nx := hny
  have HL := Lib.hid (show L.length = n by have := map_len hmap; have h2 : L.length = l.length := this; rw [h2, HN.out])
  have HMp := Lib.hid (show L.map Tv.t = l.map Tv.t from hmap)
  have H3 := Lib.hid (And.intro hown hb)
  clear hown hb hmap c0 c1
  by_cases h16 : n < 16
  · have hd : (decide ((16 : Int) ≤ (n : Int))) = false := decide_eq_false (by omega)
    have H16 := Lib.hid h16
    clear h16
    go_wp2_with (first  
      | ((with_reducible refine wpList_alloc_box _ (o := ⟨some 7, .alloc _, _, _, _, _⟩) rfl _ rfl (lgc lz) zero_lg ?_); intro w5 x5 B5 s5)
      | ((with_reducible refine wpList_store_var _ (o := ⟨none, .store _ (.tmp 7) _, _, _, _, _⟩) rfl 24 _ _ rfl w3.heap.size (lgc ⟨ny, L, A3, c3⟩) (lgc lz) (lg_size _) rfl (lgc_one _) rfl rfl x5 ?_); go_loud (intro w6 x6 hg6; have K6 := below_stored B5 hg6 B5.size (Nat.le_refl _); have H6 : Hid (MSt w w6 ⟨ny, l, A, cap⟩ ⟨ny, L, A3, c3⟩ w3.heap.size) := Lib.hid ⟨H2.out.2.1.on (bthen H3.out.2 K6), H2.out.2.2.1.on (bthen H3.out.2 K6), x6, (H3.out.1.on K6).more H2.out.1.size, (by have := H3.out.2.size; have := H2.out.2.2.2; omega), bthen H2.out.1 (bthen H3.out.2 K6)⟩; obtain ⟨m0, m1⟩ := lg_box H6.out.m; simp only [HL.out] at m1; obtain ⟨n0, _⟩ := lg_box H6.out.b0; clear x5 B5 s5 x6 hg6 K6; generalize w3.heap.size = bm at *))
      | ((with_reducible refine wpList_slice_one _ (o := ⟨some 21, .buildSlice _ _ _, _, _, _, _⟩) rfl 22 27 _ rfl _ 3 40 elemT (by decide) (tnc ⟨⟨ny, now, []⟩, none, 0⟩) rfl rfl ?_))
      | (at_builtin; go_loud (have hrow := H6.out.row HL.out; refine wpList_append_tell _ rfl _ _ _ rfl w.heap.size 27 _ 3 40 elemT (.slice A3 n c3) _ _ rfl (tnc ⟨⟨ny, now, []⟩, none, 0⟩) rfl hrow rfl (tnc_one _) (by simp only [maxLen]; omega) (by omega) H6.out.below.size ?_); go_loud (intro v7 w7 hown7 hg7 _; obtain ⟨A7, c7, rfl⟩ := own_slice hown7; have H7 := Lib.hid (H6.out.more HL.out rfl (World.ownsRow_nil _ _ _ _) hg7 hown7); have hm7 : Box w7 bm 24 (lgc ⟨ny, L, A3, c3⟩) := (H6.out.m.same (hg7.block bm H6.out.m.lt fun e => H6.out.m.ne_row hrow e.symm lg_ne1 rfl)); have m1' := hm7.cell 1; have f1' := hm7.frozen 1; have m0' := H7.out.m.cell 0; have f0' := H7.out.m.frozen 0; clear hown7 hg7 hrow hm7 m0 m1 n0))
      | fail)
    have H9 := Lib.hid (H7.out.next (nx' := ny + 1))
    generalize ((w7.setCell ⟨bm, 1, none⟩ (.slice A7 (n + 1) c7)).setCell ⟨bm, 0, none⟩ (.int .i64 (ny + 1))) = w9 at *
    have HL1 := Lib.hid (show (L ++ [(⟨⟨ny, now, []⟩, none, 0⟩ : Tv)]).length = n + 1 by rw [List.length_append, HL.out]; rfl)
    have hS : ∀ w', Below w9.heap.size w9 w' → w'.cell? ⟨bm, 0, none⟩ = some (.int .i64 (ny + 1)) ∧ w'.cell? ⟨bm, 1, none⟩ = some (.slice A7 (n + 1) c7) ∧ w'.cell? ⟨w.heap.size, 0, none⟩ = some (.int .i64 ny) := fun w' hb => ⟨(lg_box (H9.out.on hb).m).1, (lg_box (H9.out.on hb).m).2.trans (by rw [← HL1.out]), (lg_box (H9.out.on hb).b0).1⟩
    have hS2 : ∀ w', w9.drew.grownBy w' (some (w.heap.size + 1)) → w'.cell? ⟨bm, 0, none⟩ = some (.int .i64 (ny + 1)) ∧ w'.cell? ⟨bm, 1, none⟩ = some (.slice A7 (n + 1) c7) ∧ w'.cell? ⟨w.heap.size, 0, none⟩ = some (.int .i64 ny) := fun w' hg => by
      have hf := H9.out.far
      have h9 := H9.out.on (Below.refl _ _).drew
      exact ⟨(lg_box (h9.m.grown hg (by omega))).1, (lg_box (h9.m.grown hg (by omega))).2.trans (by rw [← HL1.out]), (lg_box (h9.b0.grown hg (by omega))).1⟩
    have HS := Lib.hid (hS w9.drew (Below.refl _ _).drew)
    have HS2 := Lib.hid hS2
    have HB1 := Lib.hid ((H9.out.on (Below.refl _ _).drew).b1)
    clear hS hS2 m1' f1' m0' f0'
    refine wp_region_heldT (fun w' => w'.cell? ⟨bm, 0, none⟩ = some (.int .i64 (ny + 1)) ∧ w'.cell? ⟨bm, 1, none⟩ = some (.slice A7 (n + 1) c7) ∧ w'.cell? ⟨w.heap.size, 0, none⟩ = some (.int .i64 ny)) 4 (by kernel_rfl) (by kernel_rfl) ?_
    refine heldT_take (i := 0) (oi := ⟨some 28, .load _ _, _, _, _, _⟩) (v := ?v0) rfl (by kernel_rfl) (by decide) (by kernel_rfl) (by kernel_rfl) (fun _ _ _ h => h) (Or.inl ⟨by rfl, ?hy0⟩) HS.out ?rest0
    case hy0 =>
      intro w hSw
      obtain ⟨hS0, hS1, hS2⟩ := hSw
      go_simp
      try with_reducible rfl
    try simp only [Act.put, List.setIfInBounds_toArray, List.set_cons_zero, List.set_cons_succ]
    refine heldT_take (i := 1) (oi := ⟨some 29, .fieldAddr _ _ _, _, _, _, _⟩) (v := ?v1) rfl (by kernel_rfl) (by decide) (by kernel_rfl) (by kernel_rfl) (fun _ _ _ h => h) (Or.inl ⟨by rfl, ?hy1⟩) HS.out ?rest1
    case hy1 =>
      intro w hSw
      obtain ⟨hS0, hS1, hS2⟩ := hSw
      go_simp
      try with_reducible rfl
    try simp only [Act.put, List.setIfInBounds_toArray, List.set_cons_zero, List.set_cons_succ]
    refine heldT_take (i := 2) (oi := ⟨some 30, .load _ _, _, _, _, _⟩) (v := ?v2) rfl (by kernel_rfl) (by decide) (by kernel_rfl) (by kernel_rfl) (fun _ _ _ h => h) (Or.inl ⟨by rfl, ?hy2⟩) HS.out ?rest2
    case hy2 =>
      intro w hSw
      obtain ⟨hS0, hS1, hS2⟩ := hSw
      go_simp
      try with_reducible rfl
    try simp only [Act.put, List.setIfInBounds_toArray, List.set_cons_zero, List.set_cons_succ]
    refine heldT_one (i := 3) (o := ⟨none, .store _ _ _, _, _, _, _⟩) rfl (by kernel_rfl) (by decide) (fun K hK => ?_)
    refine step_store_box _ rfl 24 _ _ rfl (w.heap.size + 1) [.int .i64 (ny + 1), .slice A7 (n + 1) c7] (lgc lz) (lg_size2 _ _ _ _) rfl (lg_one2 _ _ _ _) rfl rfl HB1.out ?_
    intro w10 x10 hg10
    refine hK.out _ _ (HS2.out _ hg10) ?_
    clear hK K
    try simp only [Act.put]
    refine heldT_done (by kernel_rfl) ?_
    have j0 := x10.cell 0
    have j1 := x10.cell 1
    have h9 := H9.out.on (Below.refl _ _).drew
    have HO := h9.own.box HB1.out lg_ne1 lg_ne2 hg10
    have HB := below_stored h9.below hg10 h9.below.size (by omega)
    have HFin := Lib.hid (And.intro HO HB)
    clear h9 HO HB HS hg10
    go_wp2
    exact bodyPost_ret (v := .tuple #[.agg #[.int .i64 (ny + 1), .slice A7 (n + 1) c7], .int .i64 ny, .int .i64 0]) (by simp [results, Try.results8, go_sem, j0, j1]) rfl ⟨⟨ny + 1, L ++ [⟨⟨ny, now, []⟩, none, 0⟩], A7, c7⟩, HFin.out.1, HFin.out.2, .inr ⟨by show l.length < 16; rw [HN.out]; exact H16.out, by rw [lval2 HL1.out], rfl, by rw [List.map_append, HMp.out]; rfl⟩⟩
  · have hd : (decide ((16 : Int) ≤ (n : Int))) = true := decide_eq_true (by omega)
    have H16 := Lib.hid h16
    clear h16
    go_wp2_with (first  
      | ((with_reducible refine wpList_alloc_box _ (o := ⟨some 7, .alloc _, _, _, _, _⟩) rfl _ rfl (lgc lz) zero_lg ?_); intro w5 x5 B5 s5)
      | ((with_reducible refine wpList_store_var _ (o := ⟨none, .store _ (.tmp 7) _, _, _, _, _⟩) rfl 24 _ _ rfl w3.heap.size (lgc ⟨ny, L, A3, c3⟩) (lgc lz) (lg_size _) rfl (lgc_one _) rfl rfl x5 ?_); go_loud (intro w6 x6 hg6; have K6 := below_stored B5 hg6 B5.size (Nat.le_refl _); have H6 : Hid (MSt w w6 ⟨ny, l, A, cap⟩ ⟨ny, L, A3, c3⟩ w3.heap.size) := Lib.hid ⟨H2.out.2.1.on (bthen H3.out.2 K6), H2.out.2.2.1.on (bthen H3.out.2 K6), x6, (H3.out.1.on K6).more H2.out.1.size, (by have := H3.out.2.size; have := H2.out.2.2.2; omega), bthen H2.out.1 (bthen H3.out.2 K6)⟩; obtain ⟨m0, m1⟩ := lg_box H6.out.m; simp only [HL.out] at m1; obtain ⟨n0, _⟩ := lg_box H6.out.b0; clear x5 B5 s5 x6 hg6 K6; generalize w3.heap.size = bm at *))
      | ((with_reducible refine wpList_store_var _ (o := ⟨none, .store _ (.tmp 4) _, _, _, _, _⟩) rfl 24 _ _ rfl (w.heap.size + 1) [.int .i64 ny, .slice A3 n c3] (lgc lz) (lg_size2 _ _ _ _) rfl (lg_one2 _ _ _ _) rfl rfl H6.out.b1 ?_); go_loud (intro w7 x7 hg7))
      | fail)
    have j0 := x7.cell 0
    have j1 := x7.cell 1
    have HO := H6.out.own.box H6.out.b1 lg_ne1 lg_ne2 hg7
    have HB := below_stored H6.out.below hg7 H6.out.below.size (by omega)
    exact bodyPost_ret (v := .tuple #[.agg #[.int .i64 ny, .slice A3 n c3], .int .i64 0, .int .i64 13]) (by simp [results, Try.results8, go_sem, j0, j1]) rfl ⟨⟨ny, L, A3, c3⟩, HO, HB, .inl ⟨by show 16 ≤ l.length; rw [HN.out]; have := H16.out; omega, by rw [lval2 HL.out], rfl, HMp.out⟩⟩
end Go.Proofs.Ytiljjgohmjimdaa

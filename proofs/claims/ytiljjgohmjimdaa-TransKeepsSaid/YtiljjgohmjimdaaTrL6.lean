/-
  The law TransKeeps of layer 18.
-/
import Derived.Test.YtiljjgohmjimdaaTrL5
namespace Go.Proofs.Ytiljjgohmjimdaa
open Go.RowKit Word Tran
set_option linter.unusedVariables false

theorem set_first {l lc : List Tv} {z : Tv} (h : Rise (ids (l.map Tv.t))) (hm : lc.map Tv.t = setT z.t (l.map Tv.t)) (h0 : l[0]? = some z) : 0 < lc.length ∧ ∃ y0, lc[0]? = some y0 ∧ y0.t = z.t := by
  rw [setT_map z.t h, List.map_map] at hm
  have h1 : (lc.map Tv.t)[0]? = some z.t := by rw [hm, List.getElem?_map, h0]; simp
  rw [List.getElem?_map] at h1
  obtain ⟨y0, h2, h3⟩ := Option.map_eq_some_iff.1 h1
  exact ⟨(List.getElem?_eq_some_iff.1 h2).1, y0, h2, h3⟩
theorem begin_some {x : Lv} {now : Int} {w : World} (hi : LIn w x) (hnx : 0 ≤ x.nx ∧ x.nx ≤ 1099511627776) :
    Calls Try.prog 8 #[lval x, .int .i64 now] w fun e w' => ∃ (y : Lv) (k ed : Int), e = .returned (.tuple #[lval y, .int .i64 k, .int .i64 ed]) ∧ LOwn w' w.heap.size y ∧ (y.l.length ≤ 10001 ∧ ∀ q ∈ y.l, q.t.ws.length ≤ 10000) ∧ Below w.heap.size w w' :=
  (begin_any x now w hi hnx).mono fun e w' h => by
    obtain ⟨y, h1, h2, h3⟩ := h
    rcases h3 with ⟨_, h4, _, h5⟩ | ⟨_, h4, _, h5⟩
    · exact ⟨y, _, _, h4, h1, ⟨Nat.le_trans (Nat.le_of_eq (map_len h5)) (Nat.le_trans hi.few (by decide)), fun q hq => by
        have h6 : q.t ∈ y.l.map Tv.t := List.mem_map.2 ⟨q, hq, rfl⟩
        rw [h5] at h6
        obtain ⟨u, hu, e⟩ := List.mem_map.1 h6
        rw [← e]
        exact (hi.each u hu).1⟩, h2⟩
    · exact ⟨y, _, _, h4, h1, ⟨by
        have h6 := congrArg List.length h5
        rw [List.length_append, List.length_map, List.length_map] at h6
        have := hi.few
        simp at h6
        omega, fun q hq => by
        have h6 : q.t ∈ y.l.map Tv.t := List.mem_map.2 ⟨q, hq, rfl⟩
        rw [h5] at h6
        rcases List.mem_append.1 h6 with h6 | h6
        · obtain ⟨u, hu, e⟩ := List.mem_map.1 h6
          rw [← e]
          exact (hi.each u hu).1
        · rw [List.mem_singleton.1 h6]
          exact Nat.zero_le _⟩, h2⟩
theorem r4_end {w6 W w8 : World} {gV n k4 : Nat} {A4 : Option Addr} {cs xs : List Value} (B : Below w6.heap.size w6 W) (V : Box W gV 27 (tnc tz)) (OA : W.ownsRow w6.heap.size 49 34 (.slice A4 n k4) n xs) (x : Box w8 gV 27 cs) (g : W.grownBy w8 (some gV)) (hV : w6.heap.size ≤ gV) :
    Below w6.heap.size w6 w8 ∧ Box w8 gV 27 cs ∧ w8.ownsRow w6.heap.size 49 34 (.slice A4 n k4) n xs :=
  ⟨below_stored B g B.size hV, x, trow_kept OA g fun b hb e => by
    injection e with e
    subst e
    exact V.ne_row OA hb (by decide) rfl⟩
/-- a row of writes in a block of its own, between two bounds -/
def RB (w : World) (B B' : Nat) (A : Option Addr) (n : Nat) : Prop := n = 0 ∨ ∃ g cs, A = some ⟨g, 0, none⟩ ∧ (B ≤ g ∧ g < B') ∧ Box w g 49 cs ∧ n * 34 ≤ cs.length
theorem RB.of {w : World} {B B' n c : Nat} {A : Option Addr} {xs : List Value} (h : w.ownsRow B 49 34 (.slice A n c) n xs) (hu : ∀ b, (Value.slice A n c).ownBlock = some b → b < B') : RB w B B' A n := by
  rcases h.2 with ⟨h', h0⟩ | ⟨g, cap, cur, h', hb, hg, hnc, hcm, hcs, htake⟩
  · exact .inl h0
  · injection h' with e1 e2 e3
    subst e1
    have hmul := Nat.mul_le_mul_right 34 hnc
    exact .inr ⟨g, cur.toList, rfl, ⟨hb, hu g rfl⟩, by show _ = _; simpa using hg, by simp; omega⟩
theorem RB.kept {w : World} {B B' n g k : Nat} {A : Option Addr} {T : TypeId} {cs : List Value} {v : Value} (h : RB w B B' A n) (x : Box w g T cs) : RB (w.setCell ⟨g, k, none⟩ v) B B' A n := by
  rcases h with h | ⟨g', cs', h1, h2, h3, h4⟩
  · exact .inl h
  · by_cases e : g' = g
    · subst e
      exact .inr ⟨g', _, h1, h2, h3.set k v, by rw [List.length_set]; exact h4⟩
    · exact .inr ⟨g', cs', h1, h2, h3.grown set_grown e, h4⟩
theorem RB.on {w w' : World} {B B' n : Nat} {A : Option Addr} (h : RB w B B' A n) (hb : Below w.heap.size w w') : RB w' B B' A n := by
  rcases h with h | ⟨g', cs', h1, h2, h3, h4⟩
  · exact .inl h
  · exact .inr ⟨g', cs', h1, h2, h3.on hb, h4⟩
theorem RB.at {w : World} {B B' n k m : Nat} {A : Option Addr} (h : RB w B B' A n) (hm : m = 34) (hk : k < n) : ∃ g cs, A = some ⟨g, 0, none⟩ ∧ Box w g 49 cs ∧ (B ≤ g ∧ g < B') ∧ (∃ u, w.cell? ⟨g, k * m, none⟩ = some u) ∧ w.frozen? ⟨g, k * m, none⟩ = false := by
  subst hm
  rcases h with h | ⟨g, cs, h1, h2, h3, h4⟩
  · omega
  · have hl : k * 34 < cs.length := by omega
    exact ⟨g, cs, h1, h3, h2, ⟨cs[k * 34], by rw [h3.cell]; exact List.getElem?_eq_getElem hl⟩, h3.frozen _⟩
/-- what stands in memory while the law writes into what it was answered -/
structure KeSt (w wr : World) (L : List (Nat × TypeId × List Value)) (ws : Tv) (c : Lv) (a b : Option Addr × Nat) (d : Lv) (Ba Bc Bd Bz : Nat) : Prop where
  tb : TBx w wr L
  ty : ∀ y ∈ L, y.2.1 ≠ 49
  was : wr.ownsRow w.heap.size 49 34 ws.v ws.t.ws.length (tws ws.t.ws)
  uw : ∀ b, ws.v.ownBlock = some b → b < Ba
  oc : LOwn wr Bc c
  uc0 : ∀ b, c.v.ownBlock = some b → b < Bd
  uc : ∀ y ∈ c.l, ∀ b, y.v.ownBlock = some b → b < Bd
  ra : RB wr Ba Bc a.1 a.2
  rb : RB wr Ba Bc b.1 b.2
  dr : wr.ownsRow Bd 27 3 d.v d.l.length (tns d.l)
  rd : ∀ y ∈ d.l, RB wr Bd Bz y.A y.t.ws.length
  h0 : w.heap.size ≤ Ba
  h1 : Ba ≤ Bc
  h2 : Bc ≤ Bd
section
variable {w wr w' : World} {L : List (Nat × TypeId × List Value)} {ws : Tv} {c d : Lv} {a b : Option Addr × Nat} {Ba Bc Bd Bz : Nat}
theorem KeSt.on (h : KeSt w wr L ws c a b d Ba Bc Bd Bz) (hb : Below wr.heap.size wr w') : KeSt w w' L ws c a b d Ba Bc Bd Bz :=
  ⟨h.tb.on hb, h.ty, own_below h.was hb, h.uw, h.oc.on hb, h.uc0, h.uc, h.ra.on hb, h.rb.on hb, own_below h.dr hb, fun y hy => (h.rd y hy).on hb, h.h0, h.h1, h.h2⟩
theorem KeSt.drew (h : KeSt w wr L ws c a b d Ba Bc Bd Bz) : KeSt w wr.drew L ws c a b d Ba Bc Bd Bz := h.on (Below.refl _ _).drew
theorem KeSt.store {g k : Nat} {cs : List Value} {v : Value} (h : KeSt w wr L ws c a b d Ba Bc Bd Bz) (x : Box wr g 49 cs) (hr : (Ba ≤ g ∧ g < Bc) ∨ Bd ≤ g) : KeSt w (wr.setCell ⟨g, k, none⟩ v) L ws c a b d Ba Bc Bd Bz := by
  obtain ⟨tb, ty, was, uw, hc, uc0, uc, ha, hb, dr, hd, h0, h1, h2⟩ := h
  have hg : wr.grownBy (wr.setCell ⟨g, k, none⟩ v) (some g) := set_grown
  refine ⟨⟨fun y hy => (tb.1 y hy).grown hg ((tb.1 y hy).ne x (ty y hy)), below_stored tb.2 hg tb.2.size (by omega)⟩, ty, trow_kept was hg (fun b hb e => ?_), uw, ⟨hc.own.beside hg (fun b hb e => ?_) (fun y hy b hb e => ?_)⟩, uc0, uc, ha.kept x, hb.kept x, trow_kept dr hg (fun b hb e => ?_), fun y hy => (hd y hy).kept x, h0, h1, h2⟩
  · injection e with e
    subst e
    have := uw _ hb
    omega
  · injection e with e
    subst e
    have q1 := uc0 _ hb
    have q2 := (hc.own.row.lt _ hb).1
    omega
  · injection e with e
    subst e
    have q1 := uc y hy _ hb
    have q2 := ((hc.own.each y hy).lt _ hb).1
    omega
  · injection e with e
    subst e
    exact x.ne_row dr hb (by decide) rfl
end
theorem TBx.sub {w W : World} {l l' : List (Nat × TypeId × List Value)} (h : TBx w W l) (hs : ∀ y ∈ l', y ∈ l) : TBx w W l' := ⟨fun y hy => h.1 y (hs y hy), h.2⟩
def Meet4 {α1 α2 α3 α4 : Type} (A : α1 → α2 → α3 → α4 → Act) (R : World → α1 → α2 → α3 → α4 → Prop) : Exit → Act → World → Prop
  | .normal, a, w => ∃ x1 x2 x3 x4, R w x1 x2 x3 x4 ∧ a = A x1 x2 x3 x4
  | _, _, _ => False
theorem wp_meet4 {P : Program} {Q : Exit → Act → World → Prop} {c : Code} {a : Act} {w : World} {α1 α2 α3 α4 : Type} {A : α1 → α2 → α3 → α4 → Act} (R : World → α1 → α2 → α3 → α4 → Prop) (h : c.wp P (Meet4 A R) a w)
    (h2 : ∀ w' x1 x2 x3 x4, R w' x1 x2 x3 x4 → Q .normal (A x1 x2 x3 x4) w') : c.wp P Q a w :=
  Code.wp_mono (fun e a' w' hm => by
    cases e <;> first | exact (hm : False).elim | (obtain ⟨x1, x2, x3, x4, hr, rfl⟩ := hm; exact h2 _ _ _ _ _ hr)) h
theorem nwL : 24 ≠ 49 := by decide
theorem nwT : 27 ≠ 49 := by decide
def Bl (w w' : World) : Prop := Below w.heap.size w w'
theorem own_cell0 {w : World} {B g k : Nat} {xs : List Value} {u : Value} (h : Rd w B (some ⟨g, 0, none⟩) xs) (hk : xs[k]? = some u) : w.cell? ⟨g, k, none⟩ = some u := by
  obtain ⟨ad, e, _, hc⟩ := h.at hk
  injection e with e
  subst e
  rw [Addr.add_mid, Nat.zero_add] at hc
  exact hc
set_option maxRecDepth 100000 in
set_option maxHeartbeats 32000000 in
theorem trlaw_keeps (x : Lv) (y : Wt) (w : World) (hx : LRaw w x) (hy : WIn y) :
    Calls Try.prog 4 #[lval x, wval y] w fun e w' => e = .returned (.bool true) ∧ Below w.heap.size w w' := by
  obtain ⟨m, hm34, hsz⟩ := big_size (P := Try.prog) (t := 49) (s := 34) (by kernel_rfl)
  have hm0 : ¬ m = 0 := by omega
  have HM := Lib.hid hm34
  obtain ⟨nx, l, A, cap⟩ := x
  have HX := Lib.hid hx
  have HY := Lib.hid hy
  have HR := Lib.hid fun w' (hb : Below w.heap.size w w') => rrightall_is ⟨nx, l, A, cap⟩ w' (hx.on hb)
  have HZ := Lib.hid (TBx.nil w)
  clear hx hy hm34
  by_cases hri : RiL nx l
  rotate_left
  · rw [tr_no hri] at HR
    clear hri
    go_enter Try.func4, Try.ntmps4
    go_wp2_with (first
      | ((with_reducible refine wpList_box_box _ (o := ⟨some 2, .box _ _, _, _, _, _⟩) rfl _ _ rfl (lgc ⟨nx, l, A, cap⟩) rfl ?_); intro w1 x1 B1 s1)
      | ((with_reducible refine wpList_wt_box (o := ⟨some 3, .box _ _, _, _, _, _⟩) rfl _ rfl y rfl ?_); intro w2 x2 B2 s2; have HT2 := Lib.hid ((HZ.out.add B1 x1).add B2 x2); clear x1 B1 s1 x2 B2 s2; generalize w1.heap.size = b3 at *)
      | fail)
    refine (awake18_any _).mono ?_
    rintro e w3 ⟨rfl, hb⟩
    have HT3 := Lib.hid (HT2.out.on hb)
    obtain ⟨c0, c1⟩ := HT3.out.cellsL (.tail _ (.head _))
    clear hb HT2
    go_wp2_with fail
    refine (HR.out _ HT3.out.2).mono ?_
    rintro e w4 ⟨rfl, hb⟩
    have HT4 := Lib.hid (HT3.out.on hb)
    clear hb c0 c1 HT3
    go_wp2_with fail
    refine (awake18_any _).mono ?_
    rintro e wz ⟨rfl, hbz⟩
    have HZz := Lib.hid (bthen HT4.out.2 hbz)
    clear hbz
    go_wp2
    go_ret
    exact ⟨rfl, HZz.out⟩
  have HI : Hid (LIn w ⟨nx, l, A, cap⟩) := Lib.hid (RiL.inn (x := ⟨nx, l, A, cap⟩) hri HX.out)
  have HRi : Hid (Rise (ids (l.map Tv.t))) := Lib.hid hri.2.2.2.2
  have HF := Lib.hid (show 0 ≤ nx ∧ nx ≤ 1099511627776 from ⟨hri.2.1, hri.2.2.1⟩)
  have HEa := Lib.hid hri.2.2.2.1
  rw [tr_yes hri] at HR
  clear hri
  by_cases hl : l.length = 0
  · have hl0 : ((l.length : Int) == 0) = true := by rw [hl]; rfl
    clear hl
    go_enter Try.func4, Try.ntmps4
    go_wp2_with (first
      | ((with_reducible refine wpList_box_box _ (o := ⟨some 2, .box _ _, _, _, _, _⟩) rfl _ _ rfl (lgc ⟨nx, l, A, cap⟩) rfl ?_); intro w1 x1 B1 s1)
      | ((with_reducible refine wpList_wt_box (o := ⟨some 3, .box _ _, _, _, _, _⟩) rfl _ rfl y rfl ?_); intro w2 x2 B2 s2; have HT2 := Lib.hid ((HZ.out.add B1 x1).add B2 x2); clear x1 B1 s1 x2 B2 s2; generalize w1.heap.size = b3 at *)
      | fail)
    refine (awake18_any _).mono ?_
    rintro e w3 ⟨rfl, hb⟩
    have HT3 := Lib.hid (HT2.out.on hb)
    obtain ⟨c0, c1⟩ := HT3.out.cellsL (.tail _ (.head _))
    clear hb HT2
    go_wp2_with fail
    refine (HR.out _ HT3.out.2).mono ?_
    rintro e w4 ⟨rfl, hb⟩
    have HT4 := Lib.hid (HT3.out.on hb)
    clear hb c0 c1 HT3
    obtain ⟨c0, c1⟩ := HT4.out.cellsL (.tail _ (.head _))
    go_wp2_with fail
    refine (awake18_any _).mono ?_
    rintro e wz ⟨rfl, hbz⟩
    have HZz := Lib.hid (bthen HT4.out.2 hbz)
    clear hbz
    go_wp2
    go_ret
    exact ⟨rfl, HZz.out⟩
  obtain ⟨z, hz⟩ : ∃ z, l[0]? = some z := ⟨_, List.getElem?_eq_getElem (by omega)⟩
  have HL0 := Lib.hid hz
  have HG := Lib.hid (gett_mem HRi.out (List.mem_map.2 ⟨z, List.mem_of_getElem? hz, rfl⟩))
  have HRz := Lib.hid (HEa.out z (List.mem_of_getElem? hz)).1
  have HTz := Lib.hid (HI.out.each z (List.mem_of_getElem? hz))
  have hl1 : ((l.length : Int) == 0) = false := by rw [beq_eq_false_iff_ne]; omega
  clear hz hl
  go_enter Try.func4, Try.ntmps4
  go_wp2_with (first
    | ((with_reducible refine wpList_box_box _ (o := ⟨some 2, .box _ _, _, _, _, _⟩) rfl _ _ rfl (lgc ⟨nx, l, A, cap⟩) rfl ?_); intro w1 x1 B1 s1)
    | ((with_reducible refine wpList_wt_box (o := ⟨some 3, .box _ _, _, _, _, _⟩) rfl _ rfl y rfl ?_); intro w2 x2 B2 s2; have HT2 := Lib.hid ((HZ.out.add B1 x1).add B2 x2); clear x1 B1 s1 x2 B2 s2; generalize w1.heap.size = b3 at *)
    | fail)
  refine (awake18_any _).mono ?_
  rintro e w3 ⟨rfl, hb⟩
  have HT3 := Lib.hid (HT2.out.on hb)
  obtain ⟨c0, c1⟩ := HT3.out.cellsL (.tail _ (.head _))
  clear hb HT2
  go_wp2_with fail
  refine (HR.out _ HT3.out.2).mono ?_
  rintro e w4 ⟨rfl, hb⟩
  have HT4 := Lib.hid (HT3.out.on hb)
  clear hb c0 c1 HT3
  have hex : ∃ LY, twc y = LY := ⟨_, rfl⟩
  obtain ⟨LY, hLY⟩ := hex
  have HLY := Lib.hid hLY
  clear hLY
  obtain ⟨c0, c1⟩ := HT4.out.cellsL (.tail _ (.head _))
  obtain ⟨ad, hA⟩ : ∃ ad, A = some ad := by
    obtain ⟨ad, h, _⟩ := tn_at HI.out.rd.1 HL0.out
    exact ⟨ad, h⟩
  have HAd := Lib.hid hA
  have hx := (HI.out.rd.below HT4.out.2).1
  have hA2 : (⟨nx, l, A, cap⟩ : Lv).A = some ad := hA
  rw [hA2] at hx
  have e0 := tn_zero0 hx HL0.out
  have e1 := tn_zero1 hx HL0.out
  have e2 := tn_zero2 hx HL0.out
  rw [hA] at c1
  have hl0 : (0 : Int) < (l.length : Int) := by have := (List.getElem?_eq_some_iff.1 HL0.out).1; omega
  clear hx hA hA2
  go_wp2_with (first
    | ((with_reducible refine wpList_alloc_box _ (o := ⟨some 5, .alloc _, _, _, _, _⟩) rfl _ rfl (tnc tz) zero_tn ?_); intro w60 x60 B60 s60)
    | ((with_reducible refine wpList_store_var _ (o := ⟨none, .store _ (.tmp 5) _, _, _, _, _⟩) rfl 27 _ _ rfl w4.heap.size (tnc z) (tnc tz) (tn_size _) rfl (tnc_one _) rfl rfl x60 ?_); go_loud (intro w6 x6 g6; have K6 := below_stored B60 g6 B60.size (Nat.le_refl _); have HT6 := Lib.hid (HT4.out.made B60 g6 x6); clear c0 c1 e0 e1 e2; clear x60 B60 s60 g6 x6 K6; generalize w4.heap.size = b5 at *))
    | fail)
  clear HT4 hl0
  obtain ⟨n, hn⟩ : ∃ n, z.t.ws.length = n := ⟨_, rfl⟩
  have HN := Lib.hid hn
  have hn60 : n ≤ 60 := by rw [← hn]; exact HRz.out.2
  obtain ⟨C, hC⟩ : ∃ C, tws z.t.ws = C := ⟨_, rfl⟩
  have HC := Lib.hid (show C.length = n * 34 by rw [← hC, tws_length HTz.out.2, hn])
  have HC1 := Lib.hid (show ∀ u ∈ C, u.oneCell' = true by rw [← hC]; exact tws_one _)
  have SO := Lib.hid fun w' (h : Below w6.heap.size w6 w') => (⟨((HT6.out.on h).cellsT (.head _)).1, ((HT6.out.on h).cellsT (.head _)).2.1, ((HT6.out.on h).cellsT (.head _)).2.2.trans (by rw [HN.out])⟩ : w'.cell? ⟨b5, 0, none⟩ = some (.int .i64 z.t.id) ∧ w'.cell? ⟨b5, 1, none⟩ = some (.int .i64 z.t.bg) ∧ w'.cell? ⟨b5, 2, none⟩ = some (.slice z.A n z.cap))
  have RD := Lib.hid fun w' (h : Below w6.heap.size w6 w') => (by rw [← hC]; exact (((HI.out.rd.2 z (List.mem_of_getElem? HL0.out)).below HT6.out.2).more HT6.out.2.size).below h : Rd w' w6.heap.size z.A C)
  have OW := Lib.hid fun (W : World) (h : w6.heap.size ≤ W.heap.size) => (World.ownsRow_lit (e := 49) (size := 34) W #[] 0 h (by decide) (by simp) : (W.alloc (.cells #[] 49)).ownsRow w6.heap.size 49 34 (.slice (some ⟨W.heap.size, 0, none⟩) 0 0) 0 [])
  have HCe := Lib.hid hC
  clear hC hn
  go_wp2_with fail
  apply wp_meet4 (fun w' (gE gV : Nat) (A4 : Option Addr) (k4 : Nat) => Below w6.heap.size w6 w' ∧ Box w' gV 27 [.int .i64 z.t.id, .int .i64 z.t.bg, .slice A4 n k4] ∧ w'.ownsRow w6.heap.size 49 34 (.slice A4 n k4) n C)
  · refine wp_region_heldT (fun w' => w'.cell? ⟨b5, 0, none⟩ = some (.int .i64 z.t.id) ∧ w'.cell? ⟨b5, 1, none⟩ = some (.int .i64 z.t.bg) ∧ w'.cell? ⟨b5, 2, none⟩ = some (.slice z.A n z.cap)) 10 (by kernel_rfl) (by kernel_rfl) ?_
    have B := Lib.hid (Below.refl w6.heap.size w6).drew
    have HS7 := Lib.hid (SO.out _ B.out)
    generalize w6.drew = W0 at *
    refine heldT_take (i := 0) (oi := ⟨some 36, .fieldAddr _ _ _, _, _, _, _⟩) (v := ?vg1) rfl (by kernel_rfl) (by decide) (by kernel_rfl) (by kernel_rfl) (fun _ _ _ h => h) (Or.inl ⟨by rfl, ?hyg1⟩) HS7.out ?restg1
    case hyg1 =>
      intro w hSw
      obtain ⟨hS0, hS1, hS2⟩ := hSw
      go_simp
      try with_reducible rfl
    try simp only [Act.put, List.setIfInBounds_toArray, List.set_cons_zero, List.set_cons_succ]
    refine heldT_take (i := 2) (oi := ⟨some 38, .fieldAddr _ _ _, _, _, _, _⟩) (v := ?vg2) rfl (by kernel_rfl) (by decide) (by kernel_rfl) (by kernel_rfl) (fun _ _ _ h => h) (Or.inl ⟨by rfl, ?hyg2⟩) HS7.out ?restg2
    case hyg2 =>
      intro w hSw
      obtain ⟨hS0, hS1, hS2⟩ := hSw
      go_simp
      try with_reducible rfl
    try simp only [Act.put, List.setIfInBounds_toArray, List.set_cons_zero, List.set_cons_succ]
    refine heldT_take (i := 5) (oi := ⟨some 41, .fieldAddr _ _ _, _, _, _, _⟩) (v := ?vg3) rfl (by kernel_rfl) (by decide) (by kernel_rfl) (by kernel_rfl) (fun _ _ _ h => h) (Or.inl ⟨by rfl, ?hyg3⟩) HS7.out ?restg3
    case hyg3 =>
      intro w hSw
      obtain ⟨hS0, hS1, hS2⟩ := hSw
      go_simp
      try with_reducible rfl
    try simp only [Act.put, List.setIfInBounds_toArray, List.set_cons_zero, List.set_cons_succ]
    refine heldT_take (i := 1) (oi := ⟨some 37, .load _ _, _, _, _, _⟩) (v := ?vg4) rfl (by kernel_rfl) (by decide) (by kernel_rfl) (by kernel_rfl) (fun _ _ _ h => h) (Or.inl ⟨by rfl, ?hyg4⟩) HS7.out ?restg4
    case hyg4 =>
      intro w hSw
      obtain ⟨hS0, hS1, hS2⟩ := hSw
      go_simp
      try with_reducible rfl
    try simp only [Act.put, List.setIfInBounds_toArray, List.set_cons_zero, List.set_cons_succ]
    refine heldT_take (i := 3) (oi := ⟨some 39, .load _ _, _, _, _, _⟩) (v := ?vg5) rfl (by kernel_rfl) (by decide) (by kernel_rfl) (by kernel_rfl) (fun _ _ _ h => h) (Or.inl ⟨by rfl, ?hyg5⟩) HS7.out ?restg5
    case hyg5 =>
      intro w hSw
      obtain ⟨hS0, hS1, hS2⟩ := hSw
      go_simp
      try with_reducible rfl
    try simp only [Act.put, List.setIfInBounds_toArray, List.set_cons_zero, List.set_cons_succ]
    refine heldT_take (i := 6) (oi := ⟨some 42, .load _ _, _, _, _, _⟩) (v := ?vg6) rfl (by kernel_rfl) (by decide) (by kernel_rfl) (by kernel_rfl) (fun _ _ _ h => h) (Or.inl ⟨by rfl, ?hyg6⟩) HS7.out ?restg6
    case hyg6 =>
      intro w hSw
      obtain ⟨hS0, hS1, hS2⟩ := hSw
      go_simp
      try with_reducible rfl
    try simp only [Act.put, List.setIfInBounds_toArray, List.set_cons_zero, List.set_cons_succ]
    refine held_two (i := 4) (j := 9) (oi := ⟨some 40, .buildSlice _ _ _, _, _, _, _⟩) (oj := ⟨some 6, .alloc _, _, _, _, _⟩) rfl rfl (by kernel_rfl) (by decide) (by decide) (fun K hK => ?_) (fun K hK => ?_)
    · go_simp
      have hbn : Below W0.heap.size W0 (W0.alloc (.cells #[] 49)) := (Below.refl _ _).alloc (Nat.le_refl _) _
      have OE := Lib.hid (OW.out W0 B.out.size)
      replace B := Lib.hid (bthen B.out hbn)
      clear hbn
      have HS1x := Lib.hid (SO.out _ B.out)
      refine hK.out _ _ HS1x.out ?_
      clear hK K
      try simp only [Act.put, List.setIfInBounds_toArray, List.set_cons_zero, List.set_cons_succ]
      generalize W0.alloc (.cells #[] 49) = W1 at *
      generalize W0.heap.size = gE at *
      refine held_two (i := 7) (j := 9) (oi := ⟨some 43, .call _, _, _, _, _⟩) (oj := ⟨some 6, .alloc _, _, _, _, _⟩) rfl rfl (by kernel_rfl) (by decide) (by decide) (fun K hK => ?_) (fun K hK => ?_)
      · refine step_append_rd W1 rfl _ _ _ rfl w6.heap.size 49 _ 34 48 elemW (.slice (some ⟨gE, 0, none⟩) 0 0) 0 [] rfl OE.out w6.heap.size z.A n z.cap C rfl HC.out (RD.out _ B.out) HC1.out (by unfold maxLen; omega) (by omega) B.out.size ?_
        intro v2 W2 hown hg
        obtain ⟨A4, k4, rfl⟩ := own_slice hown
        simp only [Nat.zero_add, List.nil_append] at hown ⊢
        replace B := Lib.hid (B.out.grown hg B.out.size (fun k hk => (OE.out.lt k hk).1))
        have OA := Lib.hid hown
        clear hown hg OE
        have HS2x := Lib.hid (SO.out _ B.out)
        refine hK.out _ _ HS2x.out ?_
        clear hK K
        try simp only [Act.put, List.setIfInBounds_toArray, List.set_cons_zero, List.set_cons_succ]
        refine heldT_take (i := 8) (oi := ⟨some 44, .build _ _, _, _, _, _⟩) (v := ?vg7) rfl (by kernel_rfl) (by decide) (by kernel_rfl) (by kernel_rfl) (fun _ _ _ h => h) (Or.inl ⟨by rfl, ?hyg7⟩) HS2x.out ?restg7
        case hyg7 =>
          intro w hSw
          obtain ⟨hS0, hS1, hS2⟩ := hSw
          go_simp
          try with_reducible rfl
        try simp only [Act.put, List.setIfInBounds_toArray, List.set_cons_zero, List.set_cons_succ]
        refine heldT_one (i := 9) (o := ⟨some 6, .alloc _, _, _, _, _⟩) rfl (by kernel_rfl) (by decide) (fun K hK => ?_)
        refine step_var W2 rfl 27 rfl (tnc tz) zero_tn ?_
        intro W3 V hbn
        replace V := Lib.hid V
        replace OA := Lib.hid (own_below OA.out hbn)
        have HVb := Lib.hid (show w6.heap.size ≤ W2.heap.size from B.out.size)
        replace B := Lib.hid (bthen B.out hbn)
        clear hbn
        have HS3x := Lib.hid (SO.out _ B.out)
        refine hK.out _ _ HS3x.out ?_
        clear hK K
        try simp only [Act.put, List.setIfInBounds_toArray, List.set_cons_zero, List.set_cons_succ]
        generalize W2.heap.size = gV at *
        refine heldT_done (by kernel_rfl) ?_
        simp only [List.drop_succ_cons, List.drop_zero]
        go_wp2_with (first
          | ((with_reducible refine wpList_store_var _ (o := ⟨none, .store _ (.tmp 6) _, _, _, _, _⟩) rfl 27 _ _ rfl gV [.int .i64 z.t.id, .int .i64 z.t.bg, .slice A4 n k4] (tnc tz) (rp_size _ _ _ _ _) rfl (rp_one _ _ _ _ _) rfl rfl V.out ?_); (intro w8 x8 g8; have F := r4_end B.out V.out OA.out x8 g8 HVb.out; clear x8 g8))
          | fail)
        exact ⟨gE, gV, A4, k4, F, rfl⟩
      · refine step_var W1 rfl 27 rfl (tnc tz) zero_tn ?_
        intro W4 V hbn
        replace V := Lib.hid V
        replace OE := Lib.hid (own_below OE.out hbn)
        have HVb := Lib.hid (show w6.heap.size ≤ W1.heap.size from B.out.size)
        replace B := Lib.hid (bthen B.out hbn)
        clear hbn
        have HS4x := Lib.hid (SO.out _ B.out)
        refine hK.out _ _ HS4x.out ?_
        clear hK K
        try simp only [Act.put, List.setIfInBounds_toArray, List.set_cons_zero, List.set_cons_succ]
        generalize W1.heap.size = gV at *
        refine heldT_one (i := 7) (o := ⟨some 43, .call _, _, _, _, _⟩) rfl (by kernel_rfl) (by decide) (fun K hK => ?_)
        refine step_append_rd W4 rfl _ _ _ rfl w6.heap.size 49 _ 34 48 elemW (.slice (some ⟨gE, 0, none⟩) 0 0) 0 [] rfl OE.out w6.heap.size z.A n z.cap C rfl HC.out (RD.out _ B.out) HC1.out (by unfold maxLen; omega) (by omega) B.out.size ?_
        intro v5 W5 hown hg
        obtain ⟨A4, k4, rfl⟩ := own_slice hown
        simp only [Nat.zero_add, List.nil_append] at hown ⊢
        replace V := Lib.hid (V.out.grown hg (V.out.ne_row OE.out rfl (by decide)))
        replace B := Lib.hid (B.out.grown hg B.out.size (fun k hk => (OE.out.lt k hk).1))
        have OA := Lib.hid hown
        clear hown hg OE
        have HS5x := Lib.hid (SO.out _ B.out)
        refine hK.out _ _ HS5x.out ?_
        clear hK K
        try simp only [Act.put, List.setIfInBounds_toArray, List.set_cons_zero, List.set_cons_succ]
        refine heldT_take (i := 8) (oi := ⟨some 44, .build _ _, _, _, _, _⟩) (v := ?vg8) rfl (by kernel_rfl) (by decide) (by kernel_rfl) (by kernel_rfl) (fun _ _ _ h => h) (Or.inl ⟨by rfl, ?hyg8⟩) HS5x.out ?restg8
        case hyg8 =>
          intro w hSw
          obtain ⟨hS0, hS1, hS2⟩ := hSw
          go_simp
          try with_reducible rfl
        try simp only [Act.put, List.setIfInBounds_toArray, List.set_cons_zero, List.set_cons_succ]
        refine heldT_done (by kernel_rfl) ?_
        simp only [List.drop_succ_cons, List.drop_zero]
        go_wp2_with (first
          | ((with_reducible refine wpList_store_var _ (o := ⟨none, .store _ (.tmp 6) _, _, _, _, _⟩) rfl 27 _ _ rfl gV [.int .i64 z.t.id, .int .i64 z.t.bg, .slice A4 n k4] (tnc tz) (rp_size _ _ _ _ _) rfl (rp_one _ _ _ _ _) rfl rfl V.out ?_); (intro w8 x8 g8; have F := r4_end B.out V.out OA.out x8 g8 HVb.out; clear x8 g8))
          | fail)
        exact ⟨gE, gV, A4, k4, F, rfl⟩
    · refine step_var W0 rfl 27 rfl (tnc tz) zero_tn ?_
      intro W6 V hbn
      replace V := Lib.hid V
      have HVb := Lib.hid (show w6.heap.size ≤ W0.heap.size from B.out.size)
      replace B := Lib.hid (bthen B.out hbn)
      clear hbn
      have HS6x := Lib.hid (SO.out _ B.out)
      refine hK.out _ _ HS6x.out ?_
      clear hK K
      try simp only [Act.put, List.setIfInBounds_toArray, List.set_cons_zero, List.set_cons_succ]
      generalize W0.heap.size = gV at *
      refine heldT_one (i := 4) (o := ⟨some 40, .buildSlice _ _ _, _, _, _, _⟩) rfl (by kernel_rfl) (by decide) (fun K hK => ?_)
      go_simp
      have hbn : Below W6.heap.size W6 (W6.alloc (.cells #[] 49)) := (Below.refl _ _).alloc (Nat.le_refl _) _
      replace V := Lib.hid (V.out.on hbn)
      have OE := Lib.hid (OW.out W6 B.out.size)
      replace B := Lib.hid (bthen B.out hbn)
      clear hbn
      have HS7x := Lib.hid (SO.out _ B.out)
      refine hK.out _ _ HS7x.out ?_
      clear hK K
      try simp only [Act.put, List.setIfInBounds_toArray, List.set_cons_zero, List.set_cons_succ]
      generalize W6.alloc (.cells #[] 49) = W7 at *
      generalize W6.heap.size = gE at *
      refine heldT_one (i := 7) (o := ⟨some 43, .call _, _, _, _, _⟩) rfl (by kernel_rfl) (by decide) (fun K hK => ?_)
      refine step_append_rd W7 rfl _ _ _ rfl w6.heap.size 49 _ 34 48 elemW (.slice (some ⟨gE, 0, none⟩) 0 0) 0 [] rfl OE.out w6.heap.size z.A n z.cap C rfl HC.out (RD.out _ B.out) HC1.out (by unfold maxLen; omega) (by omega) B.out.size ?_
      intro v8 W8 hown hg
      obtain ⟨A4, k4, rfl⟩ := own_slice hown
      simp only [Nat.zero_add, List.nil_append] at hown ⊢
      replace V := Lib.hid (V.out.grown hg (V.out.ne_row OE.out rfl (by decide)))
      replace B := Lib.hid (B.out.grown hg B.out.size (fun k hk => (OE.out.lt k hk).1))
      have OA := Lib.hid hown
      clear hown hg OE
      have HS8x := Lib.hid (SO.out _ B.out)
      refine hK.out _ _ HS8x.out ?_
      clear hK K
      try simp only [Act.put, List.setIfInBounds_toArray, List.set_cons_zero, List.set_cons_succ]
      refine heldT_take (i := 8) (oi := ⟨some 44, .build _ _, _, _, _, _⟩) (v := ?vg9) rfl (by kernel_rfl) (by decide) (by kernel_rfl) (by kernel_rfl) (fun _ _ _ h => h) (Or.inl ⟨by rfl, ?hyg9⟩) HS8x.out ?restg9
      case hyg9 =>
        intro w hSw
        obtain ⟨hS0, hS1, hS2⟩ := hSw
        go_simp
        try with_reducible rfl
      try simp only [Act.put, List.setIfInBounds_toArray, List.set_cons_zero, List.set_cons_succ]
      refine heldT_done (by kernel_rfl) ?_
      simp only [List.drop_succ_cons, List.drop_zero]
      go_wp2_with (first
        | ((with_reducible refine wpList_store_var _ (o := ⟨none, .store _ (.tmp 6) _, _, _, _, _⟩) rfl 27 _ _ rfl gV [.int .i64 z.t.id, .int .i64 z.t.bg, .slice A4 n k4] (tnc tz) (rp_size _ _ _ _ _) rfl (rp_one _ _ _ _ _) rfl rfl V.out ?_); (intro w8 x8 g8; have F := r4_end B.out V.out OA.out x8 g8 HVb.out; clear x8 g8))
        | fail)
      exact ⟨gE, gV, A4, k4, F, rfl⟩
  rintro w8 gE b6 Aw cw F
  have hC := HCe.out
  have hn := HN.out
  subst hC hn
  have HT8 := Lib.hid (show TBx w w8 [(b6, 27, tnc ⟨z.t, Aw, cw⟩), (b5, 27, tnc z), (b3, 49, twc y), (w.heap.size, 24, lgc ⟨nx, l, A, cap⟩)] ∧ w8.ownsRow w.heap.size 49 34 (.slice Aw z.t.ws.length cw) z.t.ws.length (tws z.t.ws) ∧ ∀ b, (Value.slice Aw z.t.ws.length cw).ownBlock = some b → b < w8.heap.size from ⟨(HT6.out.on F.1).cons F.2.1, own_base0 F.2.2 HT6.out.2.size, fun b hb => (F.2.2.lt b hb).2⟩)
  clear F SO RD OW HC HC1 HCe HN HT6 hn60
  obtain ⟨c0, c1⟩ := HT8.out.1.cellsL (.tail _ (.tail _ (.tail _ (.head _))))
  obtain ⟨z0, z1, z2⟩ := HT8.out.1.cellsT (.tail _ (.head _))
  go_wp2_with fail
  refine (get_yes (x := ⟨nx, l, A, cap⟩) (id := z.t.id) (t := z.t) (HI.out.on HT8.out.1.2) HRi.out HG.out).mono ?_
  rintro e w9 ⟨Aa, ca, rfl, hown, _, hb⟩
  have HT9 := Lib.hid (show TBx w w9 [(b6, 27, tnc ⟨z.t, Aw, cw⟩), (b5, 27, tnc z), (b3, 49, twc y), (w.heap.size, 24, lgc ⟨nx, l, A, cap⟩)] ∧ w9.ownsRow w.heap.size 49 34 (.slice Aw z.t.ws.length cw) z.t.ws.length (tws z.t.ws) ∧ (∀ b, (Value.slice Aw z.t.ws.length cw).ownBlock = some b → b < w8.heap.size) ∧ w9.ownsRow w8.heap.size 49 34 (.slice Aa z.t.ws.length ca) z.t.ws.length (tws z.t.ws) ∧ w.heap.size ≤ w8.heap.size from ⟨HT8.out.1.on hb, own_below HT8.out.2.1 hb, HT8.out.2.2, hown, HT8.out.1.2.size⟩)
  have HTa2 := Lib.hid hb.size
  clear hown hb c0 c1 z0 z1 z2 HT8
  generalize w8.heap.size = Ba at *
  go_wp2_with (first
    | ((with_reducible refine wpList_alloc_box _ (o := ⟨some 7, .alloc _, _, _, _, _⟩) rfl _ rfl (tnc tz) zero_tn ?_); intro w100 x100 B100 s100)
    | ((with_reducible refine wpList_store_var _ (o := ⟨none, .store _ (.tmp 7) _, _, _, _, _⟩) rfl 27 _ _ rfl w9.heap.size (tnc ⟨z.t, Aa, ca⟩) (tnc tz) (tn_size _) rfl (tnc_one _) rfl rfl x100 ?_); go_loud (intro w10 x10 g10; have K10 := below_stored B100 g10 B100.size (Nat.le_refl _); have HTa3 := Lib.hid (Nat.le_trans HTa2.out K10.size); have HTa := Lib.hid (And.intro (HT9.out.1.made B100 g10 x10) (And.intro (own_below HT9.out.2.1 K10) (And.intro HT9.out.2.2.1 (And.intro (own_below HT9.out.2.2.2.1 K10) HT9.out.2.2.2.2)))); obtain ⟨z0, z1, z2⟩ := tn_box x10; have hld : (loadCellsFrom ⟨b3, 0, none⟩ 0 m #[]).run Try.prog w10 = .ok LY.toArray w10 := (by rw [← HLY.out]; exact (HTa.out.1.get (.tail _ (.tail _ (.tail _ (.head _))))).wtAll HY.out HM.out); clear x100 B100 s100 g10 x10 K10; generalize w9.heap.size = b7 at *))
    | fail)
  clear HT9
  have HPut : Hid (Calls Try.prog 19 #[.agg #[.int .i64 z.t.id, .int .i64 z.t.bg, .slice Aa z.t.ws.length ca], .agg LY.toArray] w10 fun e w'' => ∃ Ab cb, e = .returned (.agg #[.int .i64 z.t.id, .int .i64 z.t.bg, .slice Ab (putL (clean y) z.t.ws).length cb]) ∧ w''.ownsRow w10.heap.size 49 34 (.slice Ab (putL (clean y) z.t.ws).length cb) (putL (clean y) z.t.ws).length (tws (putL (clean y) z.t.ws)) ∧ Below w10.heap.size w10 w'') := Lib.hid (by
    rw [← HLY.out]
    refine (put_any ⟨z.t, Aa, ca⟩ y w10 HTz.out.1 (SlOk.own HTa.out.2.2.2.1) HTz.out.2 HY.out HRz.out.1 (Rd.own HTa.out.2.2.2.1)).mono ?_
    rintro e w'' ⟨⟨t2, Ab, cb⟩, rfl, ht, ho, hb2⟩
    obtain rfl : t2 = ⟨z.t.id, z.t.bg, putL (clean y) z.t.ws⟩ := ht
    exact ⟨Ab, cb, rfl, ho, hb2⟩)
  have HW2 : Hid ((putL (clean y) z.t.ws).length ≤ 10000) := Lib.hid (put_tin2 (id := 0) (bg := 0) HRz.out.2 HTz.out.2 HY.out).1
  generalize hws : putL (clean y) z.t.ws = ws2 at *
  clear hws
  go_wp2_with fail
  refine HPut.out.mono ?_
  rintro e w11 ⟨Ab, cb, rfl, hown, hb⟩
  have HTb := Lib.hid (And.intro (HTa.out.1.on hb) (And.intro (own_below HTa.out.2.1 hb) (And.intro HTa.out.2.2.1 (And.intro (own_below HTa.out.2.2.2.1 hb) (And.intro HTa.out.2.2.2.2 (own_base0 hown HTa3.out))))))
  have HTb3 := Lib.hid (Nat.le_trans HTa3.out hb.size)
  clear hown hb z0 z1 z2 hld HPut HTa HTa2 HTa3
  go_wp2_with (first
    | ((with_reducible refine wpList_alloc_box _ (o := ⟨some 9, .alloc _, _, _, _, _⟩) rfl _ rfl (tnc tz) zero_tn ?_); intro w120 x120 B120 s120)
    | ((with_reducible refine wpList_store_var _ (o := ⟨none, .store _ (.tmp 9) _, _, _, _, _⟩) rfl 27 _ _ rfl w11.heap.size (tnc ⟨⟨z.t.id, z.t.bg, ws2⟩, Ab, cb⟩) (tnc tz) (tn_size _) rfl (tnc_one _) rfl rfl x120 ?_); go_loud (intro w12 x12 g12; have K12 := below_stored B120 g12 B120.size (Nat.le_refl _); have HBc := Lib.hid (Nat.le_trans HTb3.out K12.size); have HTc := Lib.hid (And.intro (HTb.out.1.made B120 g12 x12) (And.intro (own_below HTb.out.2.1 K12) (And.intro HTb.out.2.2.1 (And.intro (own_below HTb.out.2.2.2.1 K12) (And.intro HTb.out.2.2.2.2.1 (own_below HTb.out.2.2.2.2.2 K12)))))); obtain ⟨z0, z1, z2⟩ := HTc.out.1.cellsT (.tail _ (.head _)); obtain ⟨c0, c1⟩ := HTc.out.1.cellsL (.tail _ (.tail _ (.tail _ (.tail _ (.tail _ (.head _)))))); clear x120 B120 s120 g12 x12 K12; generalize w11.heap.size = b9 at *))
    | fail)
  clear HTb
  refine (set_any ⟨nx, l, A, cap⟩ ⟨z.t, Aa, ca⟩ w12 (HI.out.on HTc.out.1.2) HRi.out HTz.out (Rd.own HTc.out.2.2.2.1)).mono ?_
  rintro e w13 ⟨⟨ny, lc, Ac, cc⟩, rfl, hny, hmap, hown, hb⟩
  obtain rfl : nx = ny := Eq.symm hny
  have hmap : lc.map Tv.t = setT z.t (l.map Tv.t) := hmap
  have HLc : Hid (0 < lc.length ∧ ∃ y0, lc[0]? = some y0 ∧ y0.t = z.t) := Lib.hid (set_first HRi.out hmap HL0.out)
  have HTd := Lib.hid (And.intro (HTc.out.1.on hb) (And.intro (own_below HTc.out.2.1 hb) (And.intro HTc.out.2.2.1 (And.intro (own_below HTc.out.2.2.2.1 hb) (And.intro HTc.out.2.2.2.2.1 (And.intro (own_below HTc.out.2.2.2.2.2 hb) (And.intro hown (And.intro (fun b h => ((HTc.out.2.2.2.1.lt b h).2 : b < w12.heap.size)) (fun b h => ((HTc.out.2.2.2.2.2.lt b h).2 : b < w12.heap.size))))))))))
  have HBd3 := Lib.hid hb.size
  clear hmap hown hb c0 c1 z0 z1 z2 HTc HTb3
  generalize w12.heap.size = Bc at *
  go_wp2_with (first
    | ((with_reducible refine wpList_alloc_box _ (o := ⟨some 10, .alloc _, _, _, _, _⟩) rfl _ rfl (lgc lz) zero_lg ?_); intro w140 x140 B140 s140)
    | ((with_reducible refine wpList_store_var _ (o := ⟨none, .store _ (.tmp 10) _, _, _, _, _⟩) rfl 24 _ _ rfl w13.heap.size (lgc ⟨nx, lc, Ac, cc⟩) (lgc lz) (lg_size _) rfl (lgc_one _) rfl rfl x140 ?_); go_loud (intro w14 x14 g14; have K14 := below_stored B140 g14 B140.size (Nat.le_refl _); have HBd := Lib.hid (Nat.le_trans HBd3.out K14.size); have HTe := Lib.hid (And.intro (HTd.out.1.made B140 g14 x14) (And.intro (own_below HTd.out.2.1 K14) (And.intro HTd.out.2.2.1 (And.intro (own_below HTd.out.2.2.2.1 K14) (And.intro HTd.out.2.2.2.2.1 (And.intro (own_below HTd.out.2.2.2.2.2.1 K14) (And.intro (HTd.out.2.2.2.2.2.2.1.on K14) HTd.out.2.2.2.2.2.2.2))))))); obtain ⟨c0, c1⟩ := HTe.out.1.cellsL (.tail _ (.tail _ (.tail _ (.tail _ (.tail _ (.tail _ (.head _))))))); clear x140 B140 s140 g14 x14 K14; generalize w13.heap.size = b10 at *))
    | fail)
  clear HTd
  refine (begin_some (x := ⟨nx, l, A, cap⟩) (now := 1) (HI.out.on HTe.out.1.2) HF.out).mono ?_
  rintro e w15 ⟨⟨nd, ld, Ad, cd⟩, kd, ed, rfl, hown, hlen, hb⟩
  have HLd : Hid (ld.length ≤ 10001 ∧ ∀ q ∈ ld, q.t.ws.length ≤ 10000) := Lib.hid hlen
  clear hlen
  have HTf := Lib.hid (And.intro (HTe.out.1.on hb) (And.intro (own_below HTe.out.2.1 hb) (And.intro HTe.out.2.2.1 (And.intro (own_below HTe.out.2.2.2.1 hb) (And.intro HTe.out.2.2.2.2.1 (And.intro (own_below HTe.out.2.2.2.2.2.1 hb) (And.intro (HTe.out.2.2.2.2.2.2.1.on hb) (And.intro HTe.out.2.2.2.2.2.2.2 (And.intro hown (And.intro (fun b h => ((HTe.out.2.2.2.2.2.2.1.own.row.lt b h).2 : b < w14.heap.size)) (fun q hq b h => ((HTe.out.2.2.2.2.2.2.1.own.each q hq).lt b h).2 : ∀ q ∈ lc, ∀ b, q.v.ownBlock = some b → b < w14.heap.size)))))))))))
  clear hown hb c0 c1 HTe
  generalize w14.heap.size = Bd at *
  go_wp2_with (first
    | ((with_reducible refine wpList_alloc_box _ (o := ⟨some 11, .alloc _, _, _, _, _⟩) rfl _ rfl (lgc lz) zero_lg ?_); intro w160 x160 B160 s160)
    | ((with_reducible refine wpList_store_var _ (o := ⟨none, .store _ (.tmp 11) _, _, _, _, _⟩) rfl 24 _ _ rfl w15.heap.size (lgc ⟨nd, ld, Ad, cd⟩) (lgc lz) (lg_size _) rfl (lgc_one _) rfl rfl x160 ?_); go_loud (intro w16 x16 g16; have K16 := below_stored B160 g16 B160.size (Nat.le_refl _); have HTg := Lib.hid (And.intro (HTf.out.1.made B160 g16 x16) (And.intro (show Bl w15 w16 from K16) HTf.out.2)); clear x160 B160 s160 g16 x16 K16; generalize w15.heap.size = b11 at *))
    | fail)
  obtain ⟨hl1', y0, hy0, hyt⟩ := HLc.out
  replace HLc : Hid (0 < lc.length ∧ lc[0]? = some y0 ∧ y0.t = z.t) := Lib.hid ⟨hl1', hy0, hyt⟩
  clear hl1' hy0 hyt hl1
  have HK : Hid (KeSt w w16 [(b11, 24, lgc ⟨nd, ld, Ad, cd⟩), (b10, 24, lgc ⟨nx, lc, Ac, cc⟩), (b9, 27, tnc ⟨⟨z.t.id, z.t.bg, ws2⟩, Ab, cb⟩), (b7, 27, tnc ⟨z.t, Aa, ca⟩), (b6, 27, tnc ⟨z.t, Aw, cw⟩), (b5, 27, tnc z), (w.heap.size, 24, lgc ⟨nx, l, A, cap⟩)] ⟨z.t, Aw, cw⟩ ⟨nx, lc, Ac, cc⟩ (Aa, z.t.ws.length) (Ab, ws2.length) ⟨nd, ld, Ad, cd⟩ Ba Bc Bd w16.heap.size) := Lib.hid (by
    obtain ⟨t1, kb0, t2, t3, t4, t5, t6, t7, t8, t9, t10⟩ := HTg.out
    have kb : Below w15.heap.size w15 w16 := kb0
    have hs := kb.size
    refine ⟨t1.sub (fun q hq => ?_), fun q hq => ?_, own_below t2 kb, t3, t7.on kb, t10.1, t10.2, RB.of (own_below t4 kb) t8.1, RB.of (own_below t6 kb) t8.2, own_below t9.own.row kb, fun q hq => RB.of (own_below (t9.own.each q hq) kb) (fun b h => Nat.lt_of_lt_of_le ((t9.own.each q hq).lt b h).2 hs), t5, HBc.out, HBd.out⟩
    · simp only [List.mem_cons, List.not_mem_nil, or_false] at hq ⊢
      rcases hq with h | h | h | h | h | h | h <;> simp [h]
    · simp only [List.mem_cons, List.not_mem_nil, or_false] at hq
      rcases hq with h | h | h | h | h | h | h <;> subst h <;> first | exact nwL | exact nwT)
  clear HTg HTf
  generalize w16.heap.size = Bz at *
  go_wp2_with fail
  go_loopw [14] (fun v14 wr => ∃ k : Nat, v14 = .int .i64 k ∧ k ≤ z.t.ws.length ∧ Hid (KeSt w wr [(b11, 24, lgc ⟨nd, ld, Ad, cd⟩), (b10, 24, lgc ⟨nx, lc, Ac, cc⟩), (b9, 27, tnc ⟨⟨z.t.id, z.t.bg, ws2⟩, Ab, cb⟩), (b7, 27, tnc ⟨z.t, Aa, ca⟩), (b6, 27, tnc ⟨z.t, Aw, cw⟩), (b5, 27, tnc z), (w.heap.size, 24, lgc ⟨nx, l, A, cap⟩)] ⟨z.t, Aw, cw⟩ ⟨nx, lc, Ac, cc⟩ (Aa, z.t.ws.length) (Ab, ws2.length) ⟨nd, ld, Ad, cd⟩ Ba Bc Bd Bz)) (fun v14 _ => z.t.ws.length - (intOf v14).toNat)
  case atStart => exact ⟨0, rfl, by omega, HK⟩
  case round =>
    clear HK
    obtain ⟨k, rfl, hk, HK⟩ := hrel
    have hbd : z.t.ws.length ≤ 10000 := HTz.out.1
    obtain ⟨_, _, c2⟩ := HK.out.tb.cellsT (.tail _ (.tail _ (.tail _ (.head _))))
    by_cases hlt : k < z.t.ws.length
    · obtain ⟨g, cs, hA, hx, hr, hc, hf⟩ := HK.out.ra.at HM.out hlt
      have hA : Aa = some ⟨g, 0, none⟩ := hA
      rw [hA] at c2
      have HX2 := Lib.hid (And.intro hx hr)
      have hki : (k : Int) < (z.t.ws.length : Int) := by omega
      obtain ⟨u, hc⟩ := hc
      clear hx hr hA
      go_wp2
      go_roundw
      case rel => exact ⟨k + 1, by go_num, by omega, Lib.hid (HK.out.store HX2.out.1 (.inl HX2.out.2))⟩
      case measure => first | (simp [intOf]; done) | (simp [intOf]; omega)
    · obtain rfl : k = z.t.ws.length := by omega
      go_wp2_with fail
      clear c2
      go_loopw [15] (fun v15 wr => ∃ k : Nat, v15 = .int .i64 k ∧ k ≤ ws2.length ∧ Hid (KeSt w wr [(b11, 24, lgc ⟨nd, ld, Ad, cd⟩), (b10, 24, lgc ⟨nx, lc, Ac, cc⟩), (b9, 27, tnc ⟨⟨z.t.id, z.t.bg, ws2⟩, Ab, cb⟩), (b7, 27, tnc ⟨z.t, Aa, ca⟩), (b6, 27, tnc ⟨z.t, Aw, cw⟩), (b5, 27, tnc z), (w.heap.size, 24, lgc ⟨nx, l, A, cap⟩)] ⟨z.t, Aw, cw⟩ ⟨nx, lc, Ac, cc⟩ (Aa, z.t.ws.length) (Ab, ws2.length) ⟨nd, ld, Ad, cd⟩ Ba Bc Bd Bz)) (fun v15 _ => ws2.length - (intOf v15).toNat)
      case atStart => exact ⟨0, rfl, by omega, HK⟩
      case round =>
        clear HK
        obtain ⟨k, rfl, hk, HK⟩ := hrel
        have hbd : ws2.length ≤ 10000 := HW2.out
        obtain ⟨_, _, c2⟩ := HK.out.tb.cellsT (.tail _ (.tail _ (.head _)))
        by_cases hlt : k < ws2.length
        · obtain ⟨g, cs, hA, hx, hr, hc, hf⟩ := HK.out.rb.at HM.out hlt
          have hA : Ab = some ⟨g, 0, none⟩ := hA
          rw [hA] at c2
          have HX2 := Lib.hid (And.intro hx hr)
          have hki : (k : Int) < (ws2.length : Int) := by omega
          obtain ⟨u, hc⟩ := hc
          clear hx hr hA
          go_wp2
          go_roundw
          case rel => exact ⟨k + 1, by go_num, by omega, Lib.hid (HK.out.store HX2.out.1 (.inl HX2.out.2))⟩
          case measure => first | (simp [intOf]; done) | (simp [intOf]; omega)
        · obtain rfl : k = ws2.length := by omega
          go_wp2_with fail
          clear c2
          go_loopw [16, 17] (fun v16 v17 wr => ∃ i : Nat, v16 = .int .i64 i ∧ i ≤ ld.length ∧ Hid (KeSt w wr [(b11, 24, lgc ⟨nd, ld, Ad, cd⟩), (b10, 24, lgc ⟨nx, lc, Ac, cc⟩), (b9, 27, tnc ⟨⟨z.t.id, z.t.bg, ws2⟩, Ab, cb⟩), (b7, 27, tnc ⟨z.t, Aa, ca⟩), (b6, 27, tnc ⟨z.t, Aw, cw⟩), (b5, 27, tnc z), (w.heap.size, 24, lgc ⟨nx, l, A, cap⟩)] ⟨z.t, Aw, cw⟩ ⟨nx, lc, Ac, cc⟩ (Aa, z.t.ws.length) (Ab, ws2.length) ⟨nd, ld, Ad, cd⟩ Ba Bc Bd Bz)) (fun v16 _ _ => ld.length - (intOf v16).toNat)
          case atStart => exact ⟨0, rfl, by omega, HK⟩
          case round =>
            clear HK
            obtain ⟨i, rfl, hi, HK⟩ := hrel
            have hbd : ld.length ≤ 10001 := HLd.out.1
            obtain ⟨d0, d1⟩ := HK.out.tb.cellsL (.head _)
            by_cases hil : i < ld.length
            · have hii : (i : Int) < (ld.length : Int) := by omega
              obtain ⟨x, hx⟩ : ∃ x, ld[i]? = some x := ⟨_, List.getElem?_eq_getElem hil⟩
              have HXm := Lib.hid (List.mem_of_getElem? hx)
              have hbx : x.t.ws.length ≤ 10000 := HLd.out.2 x HXm.out
              obtain ⟨gd, hgd⟩ : ∃ gd, Ad = some ⟨gd, 0, none⟩ := by
                obtain ⟨g, h, _⟩ := own_at HK.out.dr (by show 0 < ld.length; omega)
                exact ⟨g, h⟩
              have HGd := Lib.hid hgd
              have HXi := Lib.hid hx
              rw [hgd] at d1
              have hkd : ∀ w', Hid (KeSt w w' [(b11, 24, lgc ⟨nd, ld, Ad, cd⟩), (b10, 24, lgc ⟨nx, lc, Ac, cc⟩), (b9, 27, tnc ⟨⟨z.t.id, z.t.bg, ws2⟩, Ab, cb⟩), (b7, 27, tnc ⟨z.t, Aa, ca⟩), (b6, 27, tnc ⟨z.t, Aw, cw⟩), (b5, 27, tnc z), (w.heap.size, 24, lgc ⟨nx, l, A, cap⟩)] ⟨z.t, Aw, cw⟩ ⟨nx, lc, Ac, cc⟩ (Aa, z.t.ws.length) (Ab, ws2.length) ⟨nd, ld, Ad, cd⟩ Ba Bc Bd Bz) → w'.cell? ⟨gd, i * 3 + 2, none⟩ = some (.slice x.A x.t.ws.length x.cap) := fun w' h => by
                have hr := Rd.own h.out.dr
                rw [show (⟨nd, ld, Ad, cd⟩ : Lv).A = some ⟨gd, 0, none⟩ from HGd.out] at hr
                have h2 := hr.cell0 (tns_at (j := 2) HXi.out rfl)
                exact h2
              have HKd := Lib.hid hkd
              have e2 := HKd.out _ HK
              have hd1 : ∀ w', Hid (KeSt w w' [(b11, 24, lgc ⟨nd, ld, Ad, cd⟩), (b10, 24, lgc ⟨nx, lc, Ac, cc⟩), (b9, 27, tnc ⟨⟨z.t.id, z.t.bg, ws2⟩, Ab, cb⟩), (b7, 27, tnc ⟨z.t, Aa, ca⟩), (b6, 27, tnc ⟨z.t, Aw, cw⟩), (b5, 27, tnc z), (w.heap.size, 24, lgc ⟨nx, l, A, cap⟩)] ⟨z.t, Aw, cw⟩ ⟨nx, lc, Ac, cc⟩ (Aa, z.t.ws.length) (Ab, ws2.length) ⟨nd, ld, Ad, cd⟩ Ba Bc Bd Bz) → w'.cell? ⟨b11, 1, none⟩ = some (.slice (some ⟨gd, 0, none⟩) ld.length cd) := fun w' h => by
                have := (h.out.tb.cellsL (.head _)).2
                rw [show (⟨nd, ld, Ad, cd⟩ : Lv).A = some ⟨gd, 0, none⟩ from HGd.out] at this
                exact this
              have HD1 := Lib.hid hd1
              clear hkd hd1 hx hgd
              generalize hwr : wr = wk at *
              clear hwr
              go_wp2
              go_loopw [17] (fun v17 wr => ∃ k : Nat, v17 = .int .i64 k ∧ k ≤ x.t.ws.length ∧ Hid (KeSt w wr [(b11, 24, lgc ⟨nd, ld, Ad, cd⟩), (b10, 24, lgc ⟨nx, lc, Ac, cc⟩), (b9, 27, tnc ⟨⟨z.t.id, z.t.bg, ws2⟩, Ab, cb⟩), (b7, 27, tnc ⟨z.t, Aa, ca⟩), (b6, 27, tnc ⟨z.t, Aw, cw⟩), (b5, 27, tnc z), (w.heap.size, 24, lgc ⟨nx, l, A, cap⟩)] ⟨z.t, Aw, cw⟩ ⟨nx, lc, Ac, cc⟩ (Aa, z.t.ws.length) (Ab, ws2.length) ⟨nd, ld, Ad, cd⟩ Ba Bc Bd Bz)) (fun v17 _ => x.t.ws.length - (intOf v17).toNat)
              case atStart => exact ⟨0, rfl, by omega, HK⟩
              case round =>
                clear HK d0 d1 e2
                obtain ⟨k, rfl, hk, HK⟩ := hrel
                have d1 := HD1.out _ HK
                have e2 := HKd.out _ HK
                by_cases hlt : k < x.t.ws.length
                · obtain ⟨g, cs, hA, hx, hr, hc, hf⟩ := (HK.out.rd x HXm.out).at HM.out hlt
                  rw [hA] at e2
                  have HX2 := Lib.hid (And.intro hx hr)
                  have hki : (k : Int) < (x.t.ws.length : Int) := by omega
                  obtain ⟨u, hc⟩ := hc
                  clear hx hr hA
                  go_wp2
                  go_roundw
                  case rel => exact ⟨k + 1, by go_num, by omega, Lib.hid (HK.out.store HX2.out.1 (.inr HX2.out.2.1))⟩
                  case measure => first | (simp [intOf]; done) | (simp [intOf]; omega)
                · obtain rfl : k = x.t.ws.length := by omega
                  go_wp2
                  go_roundw
                  case rel => exact ⟨i + 1, by go_num, by omega, HK⟩
                  case measure => first | (simp [intOf]; done) | (simp [intOf]; omega)
            · obtain rfl : i = ld.length := by omega
              clear d0
              have HKw := HK
              obtain ⟨gc, hgc⟩ : ∃ gc, Ac = some ⟨gc, 0, none⟩ := by
                obtain ⟨g, h, _⟩ := own_at HK.out.oc.own.row (by show 0 < lc.length; exact HLc.out.1)
                exact ⟨g, h⟩
              have HGc := Lib.hid hgc
              have HSO : Hid (∀ w', Hid (KeSt w w' [(b11, 24, lgc ⟨nd, ld, Ad, cd⟩), (b10, 24, lgc ⟨nx, lc, Ac, cc⟩), (b9, 27, tnc ⟨⟨z.t.id, z.t.bg, ws2⟩, Ab, cb⟩), (b7, 27, tnc ⟨z.t, Aa, ca⟩), (b6, 27, tnc ⟨z.t, Aw, cw⟩), (b5, 27, tnc z), (w.heap.size, 24, lgc ⟨nx, l, A, cap⟩)] ⟨z.t, Aw, cw⟩ ⟨nx, lc, Ac, cc⟩ (Aa, z.t.ws.length) (Ab, ws2.length) ⟨nd, ld, Ad, cd⟩ Ba Bc Bd Bz) → ((w'.cell? ⟨w.heap.size, 1, none⟩ = some (.slice (some ad) l.length cap) ∧ w'.cell? ad = some (.int .i64 z.t.id) ∧ w'.cell? ⟨ad.block, ad.off + 1, none⟩ = some (.int .i64 z.t.bg) ∧ w'.cell? ⟨ad.block, ad.off + 2, none⟩ = some (.slice z.A z.t.ws.length z.cap)) ∧ (w'.cell? ⟨b6, 0, none⟩ = some (.int .i64 z.t.id) ∧ w'.cell? ⟨b6, 1, none⟩ = some (.int .i64 z.t.bg) ∧ w'.cell? ⟨b6, 2, none⟩ = some (.slice Aw z.t.ws.length cw)) ∧ (w'.cell? ⟨b10, 1, none⟩ = some (.slice (some ⟨gc, 0, none⟩) lc.length cc) ∧ w'.cell? ⟨gc, 0, none⟩ = some (.int .i64 z.t.id) ∧ w'.cell? ⟨gc, 1, none⟩ = some (.int .i64 z.t.bg) ∧ w'.cell? ⟨gc, 2, none⟩ = some (.slice y0.A z.t.ws.length y0.cap)))) := Lib.hid fun w' h => by
                have hx := (HI.out.rd.below h.out.tb.2).1
                have hA : (⟨nx, l, A, cap⟩ : Lv).A = some ad := HAd.out
                rw [hA] at hx
                have hr := Rd.own h.out.oc.own.row
                rw [show (⟨nx, lc, Ac, cc⟩ : Lv).A = some ⟨gc, 0, none⟩ from HGc.out] at hr
                have q1 := (h.out.tb.cellsL (.tail _ (.tail _ (.tail _ (.tail _ (.tail _ (.tail _ (.head _)))))))).2
                rw [hA] at q1
                have q2 := h.out.tb.cellsT (.tail _ (.tail _ (.tail _ (.tail _ (.head _)))))
                have q3 := (h.out.tb.cellsL (.tail _ (.head _))).2
                rw [show (⟨nx, lc, Ac, cc⟩ : Lv).A = some ⟨gc, 0, none⟩ from HGc.out] at q3
                have k0 := hr.cell0 (tns_at (j := 0) HLc.out.2.1 rfl)
                have k1 := hr.cell0 (tns_at (j := 1) HLc.out.2.1 rfl)
                have k2 := hr.cell0 (tns_at (j := 2) HLc.out.2.1 rfl)
                rw [HLc.out.2.2] at k0 k1
                have e2 : y0.v = .slice y0.A z.t.ws.length y0.cap := by unfold Tv.v; rw [HLc.out.2.2]
                rw [e2] at k2
                exact ⟨⟨q1, tn_zero0 hx HL0.out, tn_zero1 hx HL0.out, tn_zero2 hx HL0.out⟩, q2, q3, k0, k1, k2⟩
              have HSa : Hid (∀ w', Hid (KeSt w w' [(b11, 24, lgc ⟨nd, ld, Ad, cd⟩), (b10, 24, lgc ⟨nx, lc, Ac, cc⟩), (b9, 27, tnc ⟨⟨z.t.id, z.t.bg, ws2⟩, Ab, cb⟩), (b7, 27, tnc ⟨z.t, Aa, ca⟩), (b6, 27, tnc ⟨z.t, Aw, cw⟩), (b5, 27, tnc z), (w.heap.size, 24, lgc ⟨nx, l, A, cap⟩)] ⟨z.t, Aw, cw⟩ ⟨nx, lc, Ac, cc⟩ (Aa, z.t.ws.length) (Ab, ws2.length) ⟨nd, ld, Ad, cd⟩ Ba Bc Bd Bz) → Calls Try.prog 13 #[.agg #[.int .i64 z.t.id, .int .i64 z.t.bg, .slice z.A z.t.ws.length z.cap], .agg #[.int .i64 z.t.id, .int .i64 z.t.bg, .slice Aw z.t.ws.length cw]] w' fun e w'' => e = .returned (.bool true) ∧ Below w'.heap.size w' w'') := Lib.hid fun w' h =>
                rsame_yes (x := z) (y := ⟨z.t, Aw, cw⟩) HTz.out HTz.out (((HI.out.rd.2 z (List.mem_of_getElem? HL0.out)).below h.out.tb.2).more h.out.tb.2.size) (Rd.own h.out.was) rfl
              have HSb : Hid (∀ w', Hid (KeSt w w' [(b11, 24, lgc ⟨nd, ld, Ad, cd⟩), (b10, 24, lgc ⟨nx, lc, Ac, cc⟩), (b9, 27, tnc ⟨⟨z.t.id, z.t.bg, ws2⟩, Ab, cb⟩), (b7, 27, tnc ⟨z.t, Aa, ca⟩), (b6, 27, tnc ⟨z.t, Aw, cw⟩), (b5, 27, tnc z), (w.heap.size, 24, lgc ⟨nx, l, A, cap⟩)] ⟨z.t, Aw, cw⟩ ⟨nx, lc, Ac, cc⟩ (Aa, z.t.ws.length) (Ab, ws2.length) ⟨nd, ld, Ad, cd⟩ Ba Bc Bd Bz) → Calls Try.prog 13 #[.agg #[.int .i64 z.t.id, .int .i64 z.t.bg, .slice y0.A z.t.ws.length y0.cap], .agg #[.int .i64 z.t.id, .int .i64 z.t.bg, .slice Aw z.t.ws.length cw]] w' fun e w'' => e = .returned (.bool true) ∧ Below w'.heap.size w' w'') := Lib.hid fun w' h => by
                have q := rsame_yes (x := y0) (y := ⟨z.t, Aw, cw⟩) (w := w') (by rw [HLc.out.2.2]; exact HTz.out) HTz.out (Rd.own (h.out.oc.own.each y0 (List.mem_of_getElem? HLc.out.2.1))) (Rd.own h.out.was) HLc.out.2.2
                have e2 : tval y0 = .agg #[.int .i64 z.t.id, .int .i64 z.t.bg, .slice y0.A z.t.ws.length y0.cap] := by unfold tval tnc Tv.v; rw [HLc.out.2.2]
                rw [e2] at q
                exact q
              have HS0 := Lib.hid (HSO.out _ (Lib.hid HK.out.drew))
              have hl0n : 0 < l.length := (List.getElem?_eq_some_iff.1 HL0.out).1
              have hlcn : 0 < lc.length := HLc.out.1
              have hlci : (0 : Int) < (lc.length : Int) := by omega
              clear HKw hgc
              go_wp2_with fail
              refine wp_region_heldT (fun w' => (w'.cell? ⟨w.heap.size, 1, none⟩ = some (.slice (some ad) l.length cap) ∧ w'.cell? ad = some (.int .i64 z.t.id) ∧ w'.cell? ⟨ad.block, ad.off + 1, none⟩ = some (.int .i64 z.t.bg) ∧ w'.cell? ⟨ad.block, ad.off + 2, none⟩ = some (.slice z.A z.t.ws.length z.cap)) ∧ (w'.cell? ⟨b6, 0, none⟩ = some (.int .i64 z.t.id) ∧ w'.cell? ⟨b6, 1, none⟩ = some (.int .i64 z.t.bg) ∧ w'.cell? ⟨b6, 2, none⟩ = some (.slice Aw z.t.ws.length cw)) ∧ (w'.cell? ⟨b10, 1, none⟩ = some (.slice (some ⟨gc, 0, none⟩) lc.length cc) ∧ w'.cell? ⟨gc, 0, none⟩ = some (.int .i64 z.t.id) ∧ w'.cell? ⟨gc, 1, none⟩ = some (.int .i64 z.t.bg) ∧ w'.cell? ⟨gc, 2, none⟩ = some (.slice y0.A z.t.ws.length y0.cap))) 20 (by kernel_rfl) (by kernel_rfl) ?_
              refine heldT_take (i := 0) (oi := ⟨some 115, .fieldAddr _ _ _, _, _, _, _⟩) (v := ?vf1) rfl (by kernel_rfl) (by decide) (by kernel_rfl) (by kernel_rfl) (fun _ _ _ h => h) (Or.inl ⟨by rfl, ?hyf1⟩) HS0.out ?restf1
              case hyf1 =>
                intro w hSw
                obtain ⟨⟨ha0, ha1, ha2, ha3⟩, ⟨hb0, hb1, hb2⟩, ⟨hc0, hc1, hc2, hc3⟩⟩ := hSw
                go_simp
                try with_reducible rfl
              try simp only [Act.put, List.setIfInBounds_toArray, List.set_cons_zero, List.set_cons_succ]
              refine heldT_take (i := 4) (oi := ⟨some 119, .load _ _, _, _, _, _⟩) (v := ?vf2) rfl (by kernel_rfl) (by decide) (by kernel_rfl) (by kernel_rfl) (fun _ _ _ h => h) (Or.inl ⟨by rfl, ?hyf2⟩) HS0.out ?restf2
              case hyf2 =>
                intro w hSw
                obtain ⟨⟨ha0, ha1, ha2, ha3⟩, ⟨hb0, hb1, hb2⟩, ⟨hc0, hc1, hc2, hc3⟩⟩ := hSw
                go_simp
                try with_reducible rfl
              try simp only [Act.put, List.setIfInBounds_toArray, List.set_cons_zero, List.set_cons_succ]
              refine heldT_take (i := 1) (oi := ⟨some 116, .load _ _, _, _, _, _⟩) (v := ?vf3) rfl (by kernel_rfl) (by decide) (by kernel_rfl) (by kernel_rfl) (fun _ _ _ h => h) (Or.inl ⟨by rfl, ?hyf3⟩) HS0.out ?restf3
              case hyf3 =>
                intro w hSw
                obtain ⟨⟨ha0, ha1, ha2, ha3⟩, ⟨hb0, hb1, hb2⟩, ⟨hc0, hc1, hc2, hc3⟩⟩ := hSw
                go_simp
                try with_reducible rfl
              try simp only [Act.put, List.setIfInBounds_toArray, List.set_cons_zero, List.set_cons_succ]
              refine heldT_take (i := 2) (oi := ⟨some 117, .indexAddr _ _ _, _, _, _, _⟩) (v := ?vf4) rfl (by kernel_rfl) (by decide) (by kernel_rfl) (by kernel_rfl) (fun _ _ _ h => h) (Or.inl ⟨by rfl, ?hyf4⟩) HS0.out ?restf4
              case hyf4 =>
                intro w hSw
                obtain ⟨⟨ha0, ha1, ha2, ha3⟩, ⟨hb0, hb1, hb2⟩, ⟨hc0, hc1, hc2, hc3⟩⟩ := hSw
                go_simp
                try with_reducible rfl
              try simp only [Act.put, List.setIfInBounds_toArray, List.set_cons_zero, List.set_cons_succ]
              refine heldT_take (i := 3) (oi := ⟨some 118, .load _ _, _, _, _, _⟩) (v := ?vf5) rfl (by kernel_rfl) (by decide) (by kernel_rfl) (by kernel_rfl) (fun _ _ _ h => h) (Or.inl ⟨by rfl, ?hyf5⟩) HS0.out ?restf5
              case hyf5 =>
                intro w hSw
                obtain ⟨⟨ha0, ha1, ha2, ha3⟩, ⟨hb0, hb1, hb2⟩, ⟨hc0, hc1, hc2, hc3⟩⟩ := hSw
                go_simp
                try with_reducible rfl
              try simp only [Act.put, List.setIfInBounds_toArray, List.set_cons_zero, List.set_cons_succ]
              refine heldT_one (i := 5) (o := ⟨some 120, .call _, _, _, _, _⟩) rfl (by kernel_rfl) (by decide) (fun K hK => ?_)
              go_simp
              refine (HSa.out _ (Lib.hid HK.out.drew)).mono ?_
              rintro e wa ⟨rfl, hb1⟩
              have HKa := Lib.hid (HK.out.drew.on hb1)
              have HS1 := Lib.hid (HSO.out _ HKa)
              clear hb1
              go_wp2_with fail
              refine hK.out _ _ (HS1.out) ?_
              clear hK K
              try simp only [Act.put, List.setIfInBounds_toArray, List.set_cons_zero, List.set_cons_succ]
              refine heldT_take (i := 6) (oi := ⟨some 121, .move _, _, _, _, _⟩) (v := ?vf6) rfl (by kernel_rfl) (by decide) (by kernel_rfl) (by kernel_rfl) (fun _ _ _ h => h) (Or.inl ⟨by rfl, ?hyf6⟩) HS1.out ?restf6
              case hyf6 =>
                intro w hSw
                obtain ⟨⟨ha0, ha1, ha2, ha3⟩, ⟨hb0, hb1, hb2⟩, ⟨hc0, hc1, hc2, hc3⟩⟩ := hSw
                go_simp
                try with_reducible rfl
              try simp only [Act.put, List.setIfInBounds_toArray, List.set_cons_zero, List.set_cons_succ]
              refine heldT_take (i := 7) (oi := ⟨some 122, .fieldAddr _ _ _, _, _, _, _⟩) (v := ?vf7) rfl (by kernel_rfl) (by decide) (by kernel_rfl) (by kernel_rfl) (fun _ _ _ h => h) (Or.inl ⟨by rfl, ?hyf7⟩) HS1.out ?restf7
              case hyf7 =>
                intro w hSw
                obtain ⟨⟨ha0, ha1, ha2, ha3⟩, ⟨hb0, hb1, hb2⟩, ⟨hc0, hc1, hc2, hc3⟩⟩ := hSw
                go_simp
                try with_reducible rfl
              try simp only [Act.put, List.setIfInBounds_toArray, List.set_cons_zero, List.set_cons_succ]
              refine heldT_take (i := 8) (oi := ⟨some 123, .load _ _, _, _, _, _⟩) (v := ?vf8) rfl (by kernel_rfl) (by decide) (by kernel_rfl) (by kernel_rfl) (fun _ _ _ h => h) (Or.inl ⟨by rfl, ?hyf8⟩) HS1.out ?restf8
              case hyf8 =>
                intro w hSw
                obtain ⟨⟨ha0, ha1, ha2, ha3⟩, ⟨hb0, hb1, hb2⟩, ⟨hc0, hc1, hc2, hc3⟩⟩ := hSw
                go_simp
                try with_reducible rfl
              try simp only [Act.put, List.setIfInBounds_toArray, List.set_cons_zero, List.set_cons_succ]
              refine heldT_take (i := 9) (oi := ⟨some 124, .call _, _, _, _, _⟩) (v := ?vf9) rfl (by kernel_rfl) (by decide) (by kernel_rfl) (by kernel_rfl) (fun _ _ _ h => h) (Or.inl ⟨by rfl, ?hyf9⟩) HS1.out ?restf9
              case hyf9 =>
                intro w hSw
                obtain ⟨⟨ha0, ha1, ha2, ha3⟩, ⟨hb0, hb1, hb2⟩, ⟨hc0, hc1, hc2, hc3⟩⟩ := hSw
                go_simp
                try with_reducible rfl
              try simp only [Act.put, List.setIfInBounds_toArray, List.set_cons_zero, List.set_cons_succ]
              refine heldT_take (i := 10) (oi := ⟨some 125, .binOp _ _ _ _ _, _, _, _, _⟩) (v := ?vf10) rfl (by kernel_rfl) (by decide) (by kernel_rfl) (by kernel_rfl) (fun _ _ _ h => h) (Or.inl ⟨by rfl, ?hyf10⟩) HS1.out ?restf10
              case hyf10 =>
                intro w hSw
                obtain ⟨⟨ha0, ha1, ha2, ha3⟩, ⟨hb0, hb1, hb2⟩, ⟨hc0, hc1, hc2, hc3⟩⟩ := hSw
                go_simp
                try with_reducible rfl
              try simp only [Act.put, List.setIfInBounds_toArray, List.set_cons_zero, List.set_cons_succ]
              refine heldT_take (i := 11) (oi := ⟨some 126, .pick _ _ _, _, _, _, _⟩) (v := ?vf11) rfl (by kernel_rfl) (by decide) (by kernel_rfl) (by kernel_rfl) (fun _ _ _ h => h) (Or.inl ⟨by rfl, ?hyf11⟩) HS1.out ?restf11
              case hyf11 =>
                intro w hSw
                obtain ⟨⟨ha0, ha1, ha2, ha3⟩, ⟨hb0, hb1, hb2⟩, ⟨hc0, hc1, hc2, hc3⟩⟩ := hSw
                go_simp
                try with_reducible rfl
              try simp only [Act.put, List.setIfInBounds_toArray, List.set_cons_zero, List.set_cons_succ]
              refine heldT_take (i := 12) (oi := ⟨some 127, .move _, _, _, _, _⟩) (v := ?vf12) rfl (by kernel_rfl) (by decide) (by kernel_rfl) (by kernel_rfl) (fun _ _ _ h => h) (Or.inl ⟨by rfl, ?hyf12⟩) HS1.out ?restf12
              case hyf12 =>
                intro w hSw
                obtain ⟨⟨ha0, ha1, ha2, ha3⟩, ⟨hb0, hb1, hb2⟩, ⟨hc0, hc1, hc2, hc3⟩⟩ := hSw
                go_simp
                try with_reducible rfl
              try simp only [Act.put, List.setIfInBounds_toArray, List.set_cons_zero, List.set_cons_succ]
              refine heldT_take (i := 13) (oi := ⟨some 128, .fieldAddr _ _ _, _, _, _, _⟩) (v := ?vf13) rfl (by kernel_rfl) (by decide) (by kernel_rfl) (by kernel_rfl) (fun _ _ _ h => h) (Or.inl ⟨by rfl, ?hyf13⟩) HS1.out ?restf13
              case hyf13 =>
                intro w hSw
                obtain ⟨⟨ha0, ha1, ha2, ha3⟩, ⟨hb0, hb1, hb2⟩, ⟨hc0, hc1, hc2, hc3⟩⟩ := hSw
                go_simp
                try with_reducible rfl
              try simp only [Act.put, List.setIfInBounds_toArray, List.set_cons_zero, List.set_cons_succ]
              refine heldT_take (i := 17) (oi := ⟨some 132, .load _ _, _, _, _, _⟩) (v := ?vf14) rfl (by kernel_rfl) (by decide) (by kernel_rfl) (by kernel_rfl) (fun _ _ _ h => h) (Or.inl ⟨by rfl, ?hyf14⟩) HS1.out ?restf14
              case hyf14 =>
                intro w hSw
                obtain ⟨⟨ha0, ha1, ha2, ha3⟩, ⟨hb0, hb1, hb2⟩, ⟨hc0, hc1, hc2, hc3⟩⟩ := hSw
                go_simp
                try with_reducible rfl
              try simp only [Act.put, List.setIfInBounds_toArray, List.set_cons_zero, List.set_cons_succ]
              refine heldT_take (i := 14) (oi := ⟨some 129, .load _ _, _, _, _, _⟩) (v := ?vf15) rfl (by kernel_rfl) (by decide) (by kernel_rfl) (by kernel_rfl) (fun _ _ _ h => h) (Or.inl ⟨by rfl, ?hyf15⟩) HS1.out ?restf15
              case hyf15 =>
                intro w hSw
                obtain ⟨⟨ha0, ha1, ha2, ha3⟩, ⟨hb0, hb1, hb2⟩, ⟨hc0, hc1, hc2, hc3⟩⟩ := hSw
                go_simp
                try with_reducible rfl
              try simp only [Act.put, List.setIfInBounds_toArray, List.set_cons_zero, List.set_cons_succ]
              refine heldT_take (i := 15) (oi := ⟨some 130, .indexAddr _ _ _, _, _, _, _⟩) (v := ?vf16) rfl (by kernel_rfl) (by decide) (by kernel_rfl) (by kernel_rfl) (fun _ _ _ h => h) (Or.inl ⟨by rfl, ?hyf16⟩) HS1.out ?restf16
              case hyf16 =>
                intro w hSw
                obtain ⟨⟨ha0, ha1, ha2, ha3⟩, ⟨hb0, hb1, hb2⟩, ⟨hc0, hc1, hc2, hc3⟩⟩ := hSw
                go_simp
                try with_reducible rfl
              try simp only [Act.put, List.setIfInBounds_toArray, List.set_cons_zero, List.set_cons_succ]
              refine heldT_take (i := 16) (oi := ⟨some 131, .load _ _, _, _, _, _⟩) (v := ?vf17) rfl (by kernel_rfl) (by decide) (by kernel_rfl) (by kernel_rfl) (fun _ _ _ h => h) (Or.inl ⟨by rfl, ?hyf17⟩) HS1.out ?restf17
              case hyf17 =>
                intro w hSw
                obtain ⟨⟨ha0, ha1, ha2, ha3⟩, ⟨hb0, hb1, hb2⟩, ⟨hc0, hc1, hc2, hc3⟩⟩ := hSw
                go_simp
                try with_reducible rfl
              try simp only [Act.put, List.setIfInBounds_toArray, List.set_cons_zero, List.set_cons_succ]
              refine heldT_one (i := 18) (o := ⟨some 133, .call _, _, _, _, _⟩) rfl (by kernel_rfl) (by decide) (fun K hK => ?_)
              go_simp
              refine (HSb.out _ HKa).mono ?_
              rintro e wb ⟨rfl, hb1⟩
              have HKb := Lib.hid (HKa.out.on hb1)
              have HS2 := Lib.hid (HSO.out _ HKb)
              clear hb1
              go_wp2_with fail
              refine hK.out _ _ (HS2.out) ?_
              clear hK K
              try simp only [Act.put, List.setIfInBounds_toArray, List.set_cons_zero, List.set_cons_succ]
              refine heldT_take (i := 19) (oi := ⟨some 134, .pick _ _ _, _, _, _, _⟩) (v := ?vf18) rfl (by kernel_rfl) (by decide) (by kernel_rfl) (by kernel_rfl) (fun _ _ _ h => h) (Or.inl ⟨by rfl, ?hyf18⟩) HS2.out ?restf18
              case hyf18 =>
                intro w hSw
                obtain ⟨⟨ha0, ha1, ha2, ha3⟩, ⟨hb0, hb1, hb2⟩, ⟨hc0, hc1, hc2, hc3⟩⟩ := hSw
                go_simp
                try with_reducible rfl
              try simp only [Act.put, List.setIfInBounds_toArray, List.set_cons_zero, List.set_cons_succ]
              refine heldT_done (by kernel_rfl) ?_
              go_wp2
              go_ret
              exact ⟨rfl, HKb.out.tb.2⟩
end Go.Proofs.Ytiljjgohmjimdaa

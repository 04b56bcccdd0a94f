/-
  Package trans: Put.
-/
import Derived.Test.YtiljjgohmjimdaaTrE
import Derived.Test.YtiljjgohmjimdaaMid
import Derived.Test.YtiljjgohmjimdaaHeldT
namespace Go.Proofs.Ytiljjgohmjimdaa
open Go.RowKit Word Tran
set_option linter.unusedVariables false

/-- a slice as programs make them -/
def SlOk (A : Option Addr) (n cap : Nat) : Prop := (A = none ∧ n = 0 ∧ cap = 0) ∨ (∃ ad, A = some ad ∧ n ≤ cap)
theorem SlOk.own {w : World} {base n m c s : Nat} {e : TypeId} {A : Option Addr} {xs : List Value} (h : w.ownsRow base e s (.slice A m c) n xs) : SlOk A m c := by
  rcases h.2 with ⟨e1, h0⟩ | ⟨g, cap, cur, e1, _, _, h1, _⟩
  · injection e1 with e1 e2 e3
    exact .inl ⟨e1, e2, e3⟩
  · injection e1 with e1 e2 e3
    subst e1 e2 e3
    exact .inr ⟨_, rfl, h1⟩
theorem zero_tn (w : World) : (zeroValue 27).run Try.prog w = .ok (.agg (tnc tz).toArray) w :=
  (zero_of_info (P := Try.prog) (t := 27) (v := .agg (tnc tz).toArray) (n := 3) (by kernel_rfl)).1 w
theorem lay_clean {y : Wt} (h : WIn y) (ht : y.tr = true) : lay (twc y) 2 (bs d32) = twc (clean y) := by
  rw [clean_yes ht]
  unfold lay
  have e : (twc y).drop (2 + (bs d32).length) = [] := List.drop_eq_nil_of_le (by rw [twc_len h]; decide)
  rw [e]
  simp [twc, ht]
theorem clean_in {y : Wt} (h : WIn y) : WIn (clean y) := by
  cases ht : y.tr
  · rw [clean_no ht]; exact h
  · rw [clean_yes ht]; simp [WIn]
/-- what stands in memory while Put works -/
structure PuSt (w wr : World) (x : Tv) (y : Wt) : Prop where
  below : Below w.heap.size w wr
  t : Box wr w.heap.size 27 (tnc x)
  y : Box wr (w.heap.size + 1) 49 (twc y)
  r : Box wr (w.heap.size + 1 + 1) 27 (tnc tz)
theorem PuSt.on {w wr w' : World} {x : Tv} {y : Wt} (h : PuSt w wr x y) (hb : Below wr.heap.size wr w') : PuSt w w' x y := ⟨bthen h.below hb, h.t.on hb, h.y.on hb, h.r.on hb⟩
theorem tws_drop : ∀ (l : List Wt) (k : Nat), (∀ o ∈ l, WIn o) → tws (l.drop k) = (tws l).drop (k * 34)
  | [], k, _ => by simp [tws]
  | x :: l, 0, _ => by simp
  | x :: l, k + 1, h => by
    have h1 := twc_len (h x List.mem_cons_self)
    have h2 : (twc x).drop ((twc x).length + k * 34) = [] := List.drop_eq_nil_of_le (by omega)
    rw [List.drop_succ_cons, tws_cons, tws_drop l k fun o ho => h o (List.mem_cons_of_mem _ ho), show (k + 1) * 34 = (twc x).length + k * 34 by omega, List.drop_append, h2, List.nil_append, Nat.add_sub_cancel_left]
/-- the call of Concat in Put -/
theorem put_call (w5 : World) (A1 A3 : Option Addr) (n1 c1 n3 c3 n : Nat) (l1 l3 : List Wt) (q : Wt) (h1 : l1.length = n1) (h3 : l3.length = n3) (hm1 : n1 ≤ 10000) (hm3 : n3 ≤ 10000) (hn : n1 + 1 + n3 = n) (hin : ∀ o ∈ l1 ++ [q] ++ l3, WIn o)
    (hr1 : Rd w5 w5.heap.size A1 (tws l1)) (hr3 : Rd w5 w5.heap.size A3 (tws l3)) :
    Calls Try.prog 28 #[.slice (some ⟨w5.heap.size + 1, 0, none⟩) 3 3]
      ((w5.alloc (.cells (twc q).toArray 49)).alloc (.cells #[.slice A1 n1 c1, .slice (some ⟨w5.heap.size, 0, none⟩) 1 1, .slice A3 n3 c3] 25)).drew fun e w' =>
      ∃ A6 c6, e = .returned (.slice A6 n c6) ∧ w'.ownsRow w5.heap.size 49 34 (.slice A6 n c6) n (tws (l1 ++ [q] ++ l3)) ∧ Below w5.heap.size w5 w' ∧ (∀ b, (Value.slice A6 n c6).ownBlock = some b → w5.heap.size < b) := by
  have b1 : Below w5.heap.size w5 (w5.alloc (.cells (twc q).toArray 49)) := (Below.refl _ _).alloc (Nat.le_refl _) _
  have r2 := rd_new w5 (twc q) 49 (0, 0)
  have hs : (w5.alloc (.cells (twc q).toArray 49)).heap.size = w5.heap.size + 1 := by simp
  generalize w5.alloc (.cells (twc q).toArray 49) = w6 at *
  have b2 : Below w6.heap.size w6 (w6.alloc (.cells #[.slice A1 n1 c1, .slice (some ⟨w5.heap.size, 0, none⟩) 1 1, .slice A3 n3 c3] 25)) := (Below.refl _ _).alloc (Nat.le_refl _) _
  have rr := rd_new w6 [.slice A1 n1 c1, .slice (some ⟨w5.heap.size, 0, none⟩) 1 1, .slice A3 n3 c3] 25 (0, 0)
  have hs2 : (w6.alloc (.cells #[.slice A1 n1 c1, .slice (some ⟨w5.heap.size, 0, none⟩) 1 1, .slice A3 n3 c3] 25)).heap.size = w6.heap.size + 1 := by simp
  have b2 : Below w6.heap.size w6 (w6.alloc (.cells [.slice A1 n1 c1, .slice (some ⟨w5.heap.size, 0, none⟩) 1 1, .slice A3 n3 c3].toArray 25)) := b2
  show Calls Try.prog 28 _ (w6.alloc (.cells [.slice A1 n1 c1, .slice (some ⟨w5.heap.size, 0, none⟩) 1 1, .slice A3 n3 c3].toArray 25)).drew _
  have hs2 : (w6.alloc (.cells [.slice A1 n1 c1, .slice (some ⟨w5.heap.size, 0, none⟩) 1 1, .slice A3 n3 c3].toArray 25)).heap.size = w6.heap.size + 1 := hs2
  generalize w6.alloc (.cells [.slice A1 n1 c1, .slice (some ⟨w5.heap.size, 0, none⟩) 1 1, .slice A3 n3 c3].toArray 25) = w7 at *
  have bb : Below w5.heap.size w5 w7 := bthen b1 b2
  rw [← hs]
  have r1' : Rd w7.drew w7.drew.heap.size A1 (tws l1) := (hr1.below bb).more bb.size
  have r3' : Rd w7.drew w7.drew.heap.size A3 (tws l3) := (hr3.below bb).more bb.size
  have r2' : Rd w7.drew w7.drew.heap.size (some ⟨w5.heap.size, 0, none⟩) (twc q) := (r2.below b2).more b2.size
  refine (wconcat_any w6.heap.size A1 (some ⟨w5.heap.size, 0, none⟩) A3 n1 c1 1 n3 c3 l1 l3 q w7.drew h1 h3 hm1 hm3 hin rr r1' r2' r3').mono ?_
  rintro e w8 ⟨V, rfl, hown, hb⟩
  have hl : (l1 ++ [q] ++ l3).length = n := by simp [h1, h3]; omega
  rw [hl] at hown
  obtain ⟨A6, c6, rfl⟩ := own_slice hown
  have hsz : w7.drew.heap.size = w5.heap.size + 1 + 1 := by show w7.heap.size = _; omega
  exact ⟨A6, c6, rfl, own_base0 hown (by omega), bthen bb.drew hb, fun b hb => by have := (hown.lt b hb).1; omega⟩
/-- what stands in memory behind the region of Put that lays the writes -/
structure PuEnd (w w' : World) (z : Tv) : Prop where
  own : w'.ownsRow w.heap.size 49 34 z.v z.t.ws.length (tws z.t.ws)
  t : Box w' w.heap.size 27 (tnc z)
  r : Box w' (w.heap.size + 1 + 1) 27 (tnc tz)
  below : Below w.heap.size w w'
theorem PuEnd.put {w w6 w7 : World} {z : Tv} (h : PuEnd w w6 z) (hx : Box w7 (w.heap.size + 1 + 1) 27 (tnc z)) (hg : w6.grownBy w7 (some (w.heap.size + 1 + 1))) : w7.ownsRow w.heap.size 49 34 z.v z.t.ws.length (tws z.t.ws) ∧ Below w.heap.size w w7 :=
  ⟨trow_kept h.own hg fun b hb e => by
    injection e with e
    subst e
    exact ttypes_box h.r h.own hb, below_stored h.below hg h.below.size (by omega)⟩
theorem PuSt.ends {w w5 w6 : World} {id bg : Int} {ws l : List Wt} {A A6 : Option Addr} {cap c6 n : Nat} {q : Wt} (h : PuSt w w5 ⟨⟨id, bg, ws⟩, A, cap⟩ q) (hl : l.length = n) (hown : w6.ownsRow w5.heap.size 49 34 (.slice A6 n c6) n (tws l)) (hb : Below w5.heap.size w5 w6) :
    PuEnd w (w6.setCell ⟨w.heap.size, 2, none⟩ (.slice A6 n c6)) ⟨⟨id, bg, l⟩, A6, c6⟩ := by
  subst hl
  have ht := h.t.on hb
  have hlt := h.t.lt
  have hg : w6.grownBy (w6.setCell ⟨w.heap.size, 2, none⟩ (.slice A6 l.length c6)) (some w.heap.size) := by
    refine ⟨rfl, rfl, rfl, by simp, fun k _ hk => ?_⟩
    exact heap_setCell_other _ _ _ _ (by intro e; exact hk (by simp [e]))
  refine ⟨?_, ht.set 2 _, (h.r.on hb).grown hg (by omega), below_stored (bthen h.below hb) hg (bthen h.below hb).size (Nat.le_refl _)⟩
  exact own_base0 (trow_kept hown hg fun b hb e => by
    injection e with e
    have := (hown.lt b hb).1
    omega) h.below.size

theorem PuSt.put {w wr w' : World} {x : Tv} {y q : Wt} (h : PuSt w wr x y) (hg : wr.grownBy w' (some (w.heap.size + 1))) (hx : Box w' (w.heap.size + 1) 49 (twc q)) : PuSt w w' x q :=
  ⟨below_stored h.below hg h.below.size (by omega), h.t.grown hg (by omega), hx, h.r.grown hg (by omega)⟩
set_option maxRecDepth 100000 in
set_option maxHeartbeats 4000000 in
theorem put_any (x : Tv) (y : Wt) (w : World) (hm : x.t.ws.length ≤ 10000) (hok : SlOk x.A x.t.ws.length x.cap) (hin : ∀ o ∈ x.t.ws, WIn o) (hy : WIn y) (hs : Rise (keys x.t.ws)) (hr : Rd w w.heap.size x.A (tws x.t.ws)) :
    Calls Try.prog 19 #[tval x, wval y] w fun e w' => ∃ z : Tv, e = .returned (tval z) ∧ z.t = ⟨x.t.id, x.t.bg, putL (clean y) x.t.ws⟩ ∧ w'.ownsRow w.heap.size 49 34 z.v z.t.ws.length (tws z.t.ws) ∧ Below w.heap.size w w' := by
  obtain ⟨m, hm34, hsz⟩ := big_size (P := Try.prog) (t := 49) (s := 34) (by kernel_rfl)
  have hm0 : ¬ m = 0 := by omega
  have HM := Lib.hid hm34
  obtain ⟨⟨id, bg, ws⟩, A, cap⟩ := x
  simp only at *
  have HI := Lib.hid (And.intro hin (And.intro hs (And.intro hr hok)))
  have HD : Hid ((Try.prog.info? 47).map (·.size) = some (bs d32).length ∧ (bs d32).length = 32) := Lib.hid ⟨by rw [bs_length]; kernel_rfl, by rw [bs_length]; rfl⟩
  have HYl := Lib.hid (twc_len hy)
  have HL := Lib.hid (lay_clean hy)
  have hci := clean_in hy
  clear hm34 hin hs hr hok
  generalize hq : clean y = q at *
  have HQ := Lib.hid (And.intro hq hci)
  cases htr : y.tr
  · have HTr := Lib.hid (And.intro (show q.tr = false by rw [← hq, clean_no htr]; exact htr) (show y = q by rw [← hq, clean_no htr]))
    clear htr hq hci hy
    go_enter Try.func19, Try.ntmps19
    go_wp2_with (first
      | ((with_reducible refine wpList_box_box _ (o := ⟨some 2, .box _ _, _, _, _, _⟩) rfl _ _ rfl (tnc ⟨⟨id, bg, ws⟩, A, cap⟩) rfl ?_); intro w1 x1 B1 s1)
      | ((with_reducible refine wpList_wt_box (o := ⟨some 3, .box _ _, _, _, _, _⟩) rfl _ rfl y rfl ?_); intro w2 x2 B2 s2; rw [s1]; rw [s1] at x2 s2)
      | ((with_reducible refine wpList_alloc_box _ (o := ⟨some 4, .alloc _, _, _, _, _⟩) rfl _ rfl (tnc tz) zero_tn ?_); intro w3 x3 B3 s3; rw [s2]; rw [s2] at x3; have H4 : Hid (PuSt w w3 ⟨⟨id, bg, ws⟩, A, cap⟩ y) := Lib.hid ⟨bthen (bthen B1 B2) B3, x1.on (bthen B2 B3), x2.on B3, x3⟩; rw [HTr.out.2] at H4; have ct := H4.out.y.wt.2; rw [HTr.out.1] at ct; obtain ⟨c0, c1, c2⟩ := tn_box H4.out.t; have cb := H4.out.y.wt.1; clear x1 B1 s1 x2 B2 s2 x3 B3 s3)
      | fail)
    refine (writeOf_any ⟨⟨id, bg, ws⟩, A, cap⟩ q.b w3 (Nat.le_trans hm (by decide)) HI.out.1 HI.out.2.1 ((HI.out.2.2.1.below H4.out.below).more H4.out.below.size)).mono ?_
    rintro e w5 ⟨rfl, hb⟩
    have H5 := Lib.hid (H4.out.on hb)
    clear hb c0 c1 c2 cb ct H4
    simp only at *
    by_cases hh : hit q.b (keys ws) = true
    · skip
      rw [hh]
      have hpl := hit_lt hh
      rw [List.length_map] at hpl
      have hput : putL q ws = ws.take (pos q.b (keys ws)) ++ [q] ++ ws.drop (pos q.b (keys ws) + 1) := by unfold putL; rw [hh]; rfl
      generalize hp : pos q.b (keys ws) = p at *
      obtain ⟨c0, c1, c2⟩ := tn_box H5.out.t
      simp only at c2
      go_wp2_with fail
      generalize hn : ws.length = n at *
      have hld : (loadCellsFrom ⟨w.heap.size + 1, 0, none⟩ 0 m #[]).run Try.prog w5.drew = .ok (twc q).toArray w5.drew := (H5.out.on (Below.refl _ _).drew).y.wtAll HQ.out.2 HM.out
      have hlt : w.heap.size < w5.heap.size := by have h1 := H5.out.t; exact h1.lt
      have hinq : ∀ o ∈ ws.take p ++ [q] ++ ws.drop (p + 1), WIn o := fun o ho => by
        rcases List.mem_append.1 ho with ho | ho
        · rcases List.mem_append.1 ho with ho | ho
          · exact HI.out.1 o (List.mem_of_mem_take ho)
          · rw [List.mem_singleton.1 ho]; exact HQ.out.2
        · exact HI.out.1 o (List.mem_of_mem_drop ho)
      have hr5 := (HI.out.2.2.1.below H5.out.below).more H5.out.below.size
      have hl1 : (ws.take p).length = p := by simp; omega
      have hl3 : (ws.drop (p + 1)).length = n - (p + 1) := by simp [hn]
      rcases HI.out.2.2.2 with ⟨rfl, h0, rfl⟩ | ⟨ad, rfl, hnc⟩
      · exact absurd (show n = 0 from h0) (by omega)
      have hnc : n ≤ cap := hnc
      by_cases hcr : cap = (p + 1)
      · obtain rfl : cap = n := by omega
        have hpl1 : p + 1 = cap := by omega
        have hq : (p : Int) + 1 = (cap : Int) := by omega
        have hpi : (p : Int) ≤ (cap : Int) := by omega
        have hl3 : (ws.drop cap).length = 0 := by rw [List.length_drop]; omega
        rw [hq]
        rw [show p + 1 = cap by omega] at hput hinq
        clear hq
        have HC := Lib.hid (put_call w5 (some ad) (some ad) p cap 0 0 cap (ws.take p) (ws.drop cap) q hl1 hl3 (by omega) (by omega) (by omega) hinq (tws_front p hr5) (by rw [List.drop_of_length_le (by omega)]; exact Rd.empty))
        have HE := Lib.hid fun w6 A6 c6 hown hb => H5.out.ends (w6 := w6) (A6 := A6) (c6 := c6) (l := (ws.take p) ++ [q] ++ (ws.drop cap)) (n := cap) (by have a1 := hl1; have a3 := hl3; rw [List.length_append, List.length_append, List.length_singleton]; omega) hown hb
        have HF := Lib.hid fun w6 (hb : Below w5.heap.size w5 w6) => (⟨(tn_box (H5.out.on hb).t).2.2.trans (by rw [← hn]), (H5.out.on hb).t.frozen 2⟩ : w6.cell? ⟨w.heap.size, 2, none⟩ = some (.slice (some ad) cap cap) ∧ w6.frozen? ⟨w.heap.size, 2, none⟩ = false)
        have HY := Lib.hid fun w6 (hb : Below w5.heap.size w5 w6) => (H5.out.on hb).y.wtAll HQ.out.2 HM.out
        have HL34 := Lib.hid (twc_len HQ.out.2)
        have HW1 : Hid (Below w5.heap.size w5 (w5.drew.alloc (.cells (twc q).toArray 49))) := Lib.hid ((Below.refl _ _).drew.alloc (Nat.le_refl _) _)
        have HW2 : Hid (Below w5.heap.size w5 ((w5.alloc (.cells (twc q).toArray 49)).alloc (.cells #[.slice (some ad) p cap, .slice (some ⟨w5.heap.size, 0, none⟩) 1 1, .slice (some ad) 0 0] 25)).drew) := Lib.hid ((((Below.refl _ _).alloc (Nat.le_refl _) _).alloc (by simp) _).drew)
        have HP := Lib.hid (show putL q ws = (ws.take p) ++ [q] ++ (ws.drop cap) from hput)
        generalize twc q = L at *
        clear hinq hr5 hl1 hl3 hput c0 c1 hpl1 hcr
        have hS : ∀ w', Below w5.heap.size w5 w' → w'.cell? ⟨w.heap.size, 2, none⟩ = some (.slice (some ad) cap cap) ∧ (loadCellsFrom ⟨w.heap.size + 1, 0, none⟩ 0 m #[]).run Try.prog w' = .ok L.toArray w' := fun w' hb => ⟨(HF.out w' hb).1, HY.out w' hb⟩
        have HSO := Lib.hid hS
        have HS := Lib.hid (hS w5.drew (Below.refl _ _).drew)
        clear hS hld c2
        refine wp_region_heldT (fun w' => w'.cell? ⟨w.heap.size, 2, none⟩ = some (.slice (some ad) cap cap) ∧ (loadCellsFrom ⟨w.heap.size + 1, 0, none⟩ 0 m #[]).run Try.prog w' = .ok L.toArray w') 12 (by kernel_rfl) (by kernel_rfl) ?_
        refine heldT_take (i := 0) (oi := ⟨some 23, .fieldAddr _ _ _, _, _, _, _⟩) (v := ?vb0) rfl (by kernel_rfl) (by decide) (by kernel_rfl) (by kernel_rfl) (fun _ _ _ h => h) (Or.inl ⟨by rfl, ?hyb0⟩) HS.out ?restb0
        case hyb0 =>
          intro w hSw
          obtain ⟨hS0, hS1⟩ := hSw
          go_simp
          try with_reducible rfl
        try simp only [Act.put, List.setIfInBounds_toArray, List.set_cons_zero, List.set_cons_succ]
        refine heldT_take (i := 1) (oi := ⟨some 24, .load _ _, _, _, _, _⟩) (v := ?vb1) rfl (by kernel_rfl) (by decide) (by kernel_rfl) (by kernel_rfl) (fun _ _ _ h => h) (Or.inl ⟨by rfl, ?hyb1⟩) HS.out ?restb1
        case hyb1 =>
          intro w hSw
          obtain ⟨hS0, hS1⟩ := hSw
          go_simp
          try with_reducible rfl
        try simp only [Act.put, List.setIfInBounds_toArray, List.set_cons_zero, List.set_cons_succ]
        refine heldT_take (i := 2) (oi := ⟨some 25, .move _, _, _, _, _⟩) (v := ?vb2) rfl (by kernel_rfl) (by decide) (by kernel_rfl) (by kernel_rfl) (fun _ _ _ h => h) (Or.inl ⟨by rfl, ?hyb2⟩) HS.out ?restb2
        case hyb2 =>
          intro w hSw
          obtain ⟨hS0, hS1⟩ := hSw
          go_simp
          try with_reducible rfl
        try simp only [Act.put, List.setIfInBounds_toArray, List.set_cons_zero, List.set_cons_succ]
        refine heldT_take (i := 3) (oi := ⟨some 26, .slice _ _ _ _ _, _, _, _, _⟩) (v := ?vb3) rfl (by kernel_rfl) (by decide) (by kernel_rfl) (by kernel_rfl) (fun _ _ _ h => h) (Or.inl ⟨by rfl, ?hyb3⟩) HS.out ?restb3
        case hyb3 =>
          intro w hSw
          obtain ⟨hS0, hS1⟩ := hSw
          go_simp
          try with_reducible rfl
        try simp only [Act.put, List.setIfInBounds_toArray, List.set_cons_zero, List.set_cons_succ]
        refine heldT_take (i := 4) (oi := ⟨some 27, .load _ _, _, _, _, _⟩) (v := ?vb4) rfl (by kernel_rfl) (by decide) (by kernel_rfl) (by kernel_rfl) (fun _ _ _ h => h) (Or.inl ⟨by rfl, ?hyb4⟩) HS.out ?restb4
        case hyb4 =>
          intro w hSw
          obtain ⟨hS0, hS1⟩ := hSw
          go_simp
          try with_reducible rfl
        try simp only [Act.put, List.setIfInBounds_toArray, List.set_cons_zero, List.set_cons_succ]
        refine heldT_take (i := 6) (oi := ⟨some 29, .fieldAddr _ _ _, _, _, _, _⟩) (v := ?vb6) rfl (by kernel_rfl) (by decide) (by kernel_rfl) (by kernel_rfl) (fun _ _ _ h => h) (Or.inl ⟨by rfl, ?hyb6⟩) HS.out ?restb6
        case hyb6 =>
          intro w hSw
          obtain ⟨hS0, hS1⟩ := hSw
          go_simp
          try with_reducible rfl
        try simp only [Act.put, List.setIfInBounds_toArray, List.set_cons_zero, List.set_cons_succ]
        refine heldT_take (i := 7) (oi := ⟨some 30, .load _ _, _, _, _, _⟩) (v := ?vb7) rfl (by kernel_rfl) (by decide) (by kernel_rfl) (by kernel_rfl) (fun _ _ _ h => h) (Or.inl ⟨by rfl, ?hyb7⟩) HS.out ?restb7
        case hyb7 =>
          intro w hSw
          obtain ⟨hS0, hS1⟩ := hSw
          go_simp
          try with_reducible rfl
        try simp only [Act.put, List.setIfInBounds_toArray, List.set_cons_zero, List.set_cons_succ]
        refine heldT_take (i := 8) (oi := ⟨some 31, .move _, _, _, _, _⟩) (v := ?vb8) rfl (by kernel_rfl) (by decide) (by kernel_rfl) (by kernel_rfl) (fun _ _ _ h => h) (Or.inl ⟨by rfl, ?hyb8⟩) HS.out ?restb8
        case hyb8 =>
          intro w hSw
          obtain ⟨hS0, hS1⟩ := hSw
          go_simp
          try with_reducible rfl
        try simp only [Act.put, List.setIfInBounds_toArray, List.set_cons_zero, List.set_cons_succ]
        refine heldT_take (i := 9) (oi := ⟨some 32, .slice _ _ _ _ _, _, _, _, _⟩) (v := ?vb9) rfl (by kernel_rfl) (by decide) (by kernel_rfl) (by kernel_rfl) (fun _ _ _ h => h) (Or.inl ⟨by rfl, ?hyb9⟩) HS.out ?restb9
        case hyb9 =>
          intro w hSw
          obtain ⟨hS0, hS1⟩ := hSw
          go_simp
          try with_reducible rfl
        try simp only [Act.put, List.setIfInBounds_toArray, List.set_cons_zero, List.set_cons_succ]
        refine heldT_one (i := 5) (o := ⟨some 28, .buildSlice _ _ _, _, _, _, _⟩) rfl (by kernel_rfl) (by decide) (fun K hK => ?_)
        refine step_slice_one _ rfl _ _ rfl 49 _ 34 48 elemW (by decide) L HL34.out rfl ?_
        refine hK.out _ _ (HSO.out _ HW1.out) ?_
        clear hK K
        try simp only [Act.put, List.setIfInBounds_toArray, List.set_cons_zero, List.set_cons_succ]
        refine heldT_one (i := 10) (o := ⟨some 33, .buildSlice _ _ _, _, _, _, _⟩) rfl (by kernel_rfl) (by decide) (fun K hK => ?_)
        go_simp
        refine hK.out _ _ (HSO.out _ HW2.out) ?_
        clear hK K
        try simp only [Act.put, List.setIfInBounds_toArray, List.set_cons_zero, List.set_cons_succ]
        refine heldT_one (i := 11) (o := ⟨some 34, .call _, _, _, _, _⟩) rfl (by kernel_rfl) (by decide) (fun K hK => ?_)
        go_simp
        refine HC.out.mono ?_
        rintro e w6 ⟨A6, c6, rfl, hown, hb, ha⟩
        have hend := HE.out w6 A6 c6 hown hb
        rw [← HP.out] at hend
        have HEnd := Lib.hid hend
        have HB6 := Lib.hid hb
        clear hown hb ha hend
        go_wp2_with fail
        refine hK.out _ _ (HSO.out _ HB6.out) ?_
        clear hK K
        try simp only [Act.put, List.setIfInBounds_toArray, List.set_cons_zero, List.set_cons_succ]
        refine heldT_done (by kernel_rfl) ?_
        obtain ⟨c2', f2'⟩ := HF.out w6 HB6.out
        obtain ⟨k0, k1, k2⟩ := tn_box HEnd.out.t
        clear HS
        go_wp2_with (first
          | ((with_reducible refine wpList_store_var _ (o := ⟨none, .store _ (.tmp 4) _, _, _, _, _⟩) rfl 27 _ _ rfl (w.heap.size + 1 + 1) (tnc ⟨⟨id, bg, putL q ws⟩, A6, c6⟩) (tnc tz) (tn_size _) rfl (tnc_one _) rfl rfl HEnd.out.r ?_); go_loud (intro w7 x7 hg7; have HR := HEnd.out.put x7 hg7))
          | fail)
        obtain ⟨j0, j1, j2⟩ := tn_box x7
        have HQ1 := HQ.out.1
        subst HQ1
        exact bodyPost_ret (v := tval ⟨⟨id, bg, putL (clean y) ws⟩, A6, c6⟩) (by simp [results, Try.results19, go_sem, j0, j1, j2, tnc]) rfl ⟨_, rfl, rfl, HR.1, HR.2⟩
      have hpi : (p : Int) + 1 ≤ (n : Int) := by omega
      have hpc : (p : Int) ≤ (cap : Int) := by omega
      have hp0 : (0 : Int) ≤ (p : Int) + 1 := by omega
      have HC := Lib.hid (put_call w5 (some ad) (some (ad.add ((p + 1) * m))) p cap (n - (p + 1)) (cap - (p + 1)) n (ws.take p) (ws.drop (p + 1)) q hl1 hl3 (by omega) (by omega) (by omega) hinq (tws_front p hr5) (by rw [tws_drop _ _ HI.out.1, HM.out]; exact hr5.tail))
      have HE := Lib.hid fun w6 A6 c6 hown hb => H5.out.ends (w6 := w6) (A6 := A6) (c6 := c6) (l := (ws.take p) ++ [q] ++ (ws.drop (p + 1))) (n := n) (by have a1 := hl1; have a3 := hl3; rw [List.length_append, List.length_append, List.length_singleton]; omega) hown hb
      have HF := Lib.hid fun w6 (hb : Below w5.heap.size w5 w6) => (⟨(tn_box (H5.out.on hb).t).2.2.trans (by rw [← hn]), (H5.out.on hb).t.frozen 2⟩ : w6.cell? ⟨w.heap.size, 2, none⟩ = some (.slice (some ad) n cap) ∧ w6.frozen? ⟨w.heap.size, 2, none⟩ = false)
      have HY := Lib.hid fun w6 (hb : Below w5.heap.size w5 w6) => (H5.out.on hb).y.wtAll HQ.out.2 HM.out
      have HL34 := Lib.hid (twc_len HQ.out.2)
      have HW1 : Hid (Below w5.heap.size w5 (w5.drew.alloc (.cells (twc q).toArray 49))) := Lib.hid ((Below.refl _ _).drew.alloc (Nat.le_refl _) _)
      have HW2 : Hid (Below w5.heap.size w5 ((w5.alloc (.cells (twc q).toArray 49)).alloc (.cells #[.slice (some ad) p cap, .slice (some ⟨w5.heap.size, 0, none⟩) 1 1, .slice (some (ad.add ((p + 1) * m))) (n - (p + 1)) (cap - (p + 1))] 25)).drew) := Lib.hid ((((Below.refl _ _).alloc (Nat.le_refl _) _).alloc (by simp) _).drew)
      have HP := Lib.hid (show putL q ws = (ws.take p) ++ [q] ++ (ws.drop (p + 1)) from hput)
      generalize twc q = L at *
      clear hinq hr5 hl1 hl3 hput c0 c1
      have hS : ∀ w', Below w5.heap.size w5 w' → w'.cell? ⟨w.heap.size, 2, none⟩ = some (.slice (some ad) n cap) ∧ (loadCellsFrom ⟨w.heap.size + 1, 0, none⟩ 0 m #[]).run Try.prog w' = .ok L.toArray w' := fun w' hb => ⟨(HF.out w' hb).1, HY.out w' hb⟩
      have HSO := Lib.hid hS
      have HS := Lib.hid (hS w5.drew (Below.refl _ _).drew)
      clear hS hld c2
      refine wp_region_heldT (fun w' => w'.cell? ⟨w.heap.size, 2, none⟩ = some (.slice (some ad) n cap) ∧ (loadCellsFrom ⟨w.heap.size + 1, 0, none⟩ 0 m #[]).run Try.prog w' = .ok L.toArray w') 12 (by kernel_rfl) (by kernel_rfl) ?_
      refine heldT_take (i := 0) (oi := ⟨some 23, .fieldAddr _ _ _, _, _, _, _⟩) (v := ?vc0) rfl (by kernel_rfl) (by decide) (by kernel_rfl) (by kernel_rfl) (fun _ _ _ h => h) (Or.inl ⟨by rfl, ?hyc0⟩) HS.out ?restc0
      case hyc0 =>
        intro w hSw
        obtain ⟨hS0, hS1⟩ := hSw
        go_simp
        try with_reducible rfl
      try simp only [Act.put, List.setIfInBounds_toArray, List.set_cons_zero, List.set_cons_succ]
      refine heldT_take (i := 1) (oi := ⟨some 24, .load _ _, _, _, _, _⟩) (v := ?vc1) rfl (by kernel_rfl) (by decide) (by kernel_rfl) (by kernel_rfl) (fun _ _ _ h => h) (Or.inl ⟨by rfl, ?hyc1⟩) HS.out ?restc1
      case hyc1 =>
        intro w hSw
        obtain ⟨hS0, hS1⟩ := hSw
        go_simp
        try with_reducible rfl
      try simp only [Act.put, List.setIfInBounds_toArray, List.set_cons_zero, List.set_cons_succ]
      refine heldT_take (i := 2) (oi := ⟨some 25, .move _, _, _, _, _⟩) (v := ?vc2) rfl (by kernel_rfl) (by decide) (by kernel_rfl) (by kernel_rfl) (fun _ _ _ h => h) (Or.inl ⟨by rfl, ?hyc2⟩) HS.out ?restc2
      case hyc2 =>
        intro w hSw
        obtain ⟨hS0, hS1⟩ := hSw
        go_simp
        try with_reducible rfl
      try simp only [Act.put, List.setIfInBounds_toArray, List.set_cons_zero, List.set_cons_succ]
      refine heldT_take (i := 3) (oi := ⟨some 26, .slice _ _ _ _ _, _, _, _, _⟩) (v := ?vc3) rfl (by kernel_rfl) (by decide) (by kernel_rfl) (by kernel_rfl) (fun _ _ _ h => h) (Or.inl ⟨by rfl, ?hyc3⟩) HS.out ?restc3
      case hyc3 =>
        intro w hSw
        obtain ⟨hS0, hS1⟩ := hSw
        go_simp
        try with_reducible rfl
      try simp only [Act.put, List.setIfInBounds_toArray, List.set_cons_zero, List.set_cons_succ]
      refine heldT_take (i := 4) (oi := ⟨some 27, .load _ _, _, _, _, _⟩) (v := ?vc4) rfl (by kernel_rfl) (by decide) (by kernel_rfl) (by kernel_rfl) (fun _ _ _ h => h) (Or.inl ⟨by rfl, ?hyc4⟩) HS.out ?restc4
      case hyc4 =>
        intro w hSw
        obtain ⟨hS0, hS1⟩ := hSw
        go_simp
        try with_reducible rfl
      try simp only [Act.put, List.setIfInBounds_toArray, List.set_cons_zero, List.set_cons_succ]
      refine heldT_take (i := 6) (oi := ⟨some 29, .fieldAddr _ _ _, _, _, _, _⟩) (v := ?vc6) rfl (by kernel_rfl) (by decide) (by kernel_rfl) (by kernel_rfl) (fun _ _ _ h => h) (Or.inl ⟨by rfl, ?hyc6⟩) HS.out ?restc6
      case hyc6 =>
        intro w hSw
        obtain ⟨hS0, hS1⟩ := hSw
        go_simp
        try with_reducible rfl
      try simp only [Act.put, List.setIfInBounds_toArray, List.set_cons_zero, List.set_cons_succ]
      refine heldT_take (i := 7) (oi := ⟨some 30, .load _ _, _, _, _, _⟩) (v := ?vc7) rfl (by kernel_rfl) (by decide) (by kernel_rfl) (by kernel_rfl) (fun _ _ _ h => h) (Or.inl ⟨by rfl, ?hyc7⟩) HS.out ?restc7
      case hyc7 =>
        intro w hSw
        obtain ⟨hS0, hS1⟩ := hSw
        go_simp
        try with_reducible rfl
      try simp only [Act.put, List.setIfInBounds_toArray, List.set_cons_zero, List.set_cons_succ]
      refine heldT_take (i := 8) (oi := ⟨some 31, .move _, _, _, _, _⟩) (v := ?vc8) rfl (by kernel_rfl) (by decide) (by kernel_rfl) (by kernel_rfl) (fun _ _ _ h => h) (Or.inl ⟨by rfl, ?hyc8⟩) HS.out ?restc8
      case hyc8 =>
        intro w hSw
        obtain ⟨hS0, hS1⟩ := hSw
        go_simp
        try with_reducible rfl
      try simp only [Act.put, List.setIfInBounds_toArray, List.set_cons_zero, List.set_cons_succ]
      refine heldT_take (i := 9) (oi := ⟨some 32, .slice _ _ _ _ _, _, _, _, _⟩) (v := ?vc9) rfl (by kernel_rfl) (by decide) (by kernel_rfl) (by kernel_rfl) (fun _ _ _ h => h) (Or.inl ⟨by rfl, ?hyc9⟩) HS.out ?restc9
      case hyc9 =>
        intro w hSw
        obtain ⟨hS0, hS1⟩ := hSw
        go_simp
        try with_reducible rfl
      try simp only [Act.put, List.setIfInBounds_toArray, List.set_cons_zero, List.set_cons_succ]
      refine heldT_one (i := 5) (o := ⟨some 28, .buildSlice _ _ _, _, _, _, _⟩) rfl (by kernel_rfl) (by decide) (fun K hK => ?_)
      refine step_slice_one _ rfl _ _ rfl 49 _ 34 48 elemW (by decide) L HL34.out rfl ?_
      refine hK.out _ _ (HSO.out _ HW1.out) ?_
      clear hK K
      try simp only [Act.put, List.setIfInBounds_toArray, List.set_cons_zero, List.set_cons_succ]
      refine heldT_one (i := 10) (o := ⟨some 33, .buildSlice _ _ _, _, _, _, _⟩) rfl (by kernel_rfl) (by decide) (fun K hK => ?_)
      go_simp
      refine hK.out _ _ (HSO.out _ HW2.out) ?_
      clear hK K
      try simp only [Act.put, List.setIfInBounds_toArray, List.set_cons_zero, List.set_cons_succ]
      refine heldT_one (i := 11) (o := ⟨some 34, .call _, _, _, _, _⟩) rfl (by kernel_rfl) (by decide) (fun K hK => ?_)
      go_simp
      refine HC.out.mono ?_
      rintro e w6 ⟨A6, c6, rfl, hown, hb, ha⟩
      have hend := HE.out w6 A6 c6 hown hb
      rw [← HP.out] at hend
      have HEnd := Lib.hid hend
      have HB6 := Lib.hid hb
      clear hown hb ha hend
      go_wp2_with fail
      refine hK.out _ _ (HSO.out _ HB6.out) ?_
      clear hK K
      try simp only [Act.put, List.setIfInBounds_toArray, List.set_cons_zero, List.set_cons_succ]
      refine heldT_done (by kernel_rfl) ?_
      obtain ⟨c2', f2'⟩ := HF.out w6 HB6.out
      obtain ⟨k0, k1, k2⟩ := tn_box HEnd.out.t
      clear HS
      go_wp2_with (first
        | ((with_reducible refine wpList_store_var _ (o := ⟨none, .store _ (.tmp 4) _, _, _, _, _⟩) rfl 27 _ _ rfl (w.heap.size + 1 + 1) (tnc ⟨⟨id, bg, putL q ws⟩, A6, c6⟩) (tnc tz) (tn_size _) rfl (tnc_one _) rfl rfl HEnd.out.r ?_); go_loud (intro w7 x7 hg7; have HR := HEnd.out.put x7 hg7))
        | fail)
      obtain ⟨j0, j1, j2⟩ := tn_box x7
      have HQ1 := HQ.out.1
      subst HQ1
      exact bodyPost_ret (v := tval ⟨⟨id, bg, putL (clean y) ws⟩, A6, c6⟩) (by simp [results, Try.results19, go_sem, j0, j1, j2, tnc]) rfl ⟨_, rfl, rfl, HR.1, HR.2⟩
    · skip
      rw [show hit q.b (keys ws) = false by simpa using hh]
      have hpl := pos_le q.b (keys ws)
      rw [List.length_map] at hpl
      have hput : putL q ws = ws.take (pos q.b (keys ws)) ++ [q] ++ ws.drop (pos q.b (keys ws)) := by unfold putL; rw [show hit q.b (keys ws) = false by simpa using hh]; rfl
      generalize hp : pos q.b (keys ws) = p at *
      obtain ⟨c0, c1, c2⟩ := tn_box H5.out.t
      simp only at c2
      go_wp2_with fail
      generalize hn : ws.length = n at *
      have hld : (loadCellsFrom ⟨w.heap.size + 1, 0, none⟩ 0 m #[]).run Try.prog w5.drew = .ok (twc q).toArray w5.drew := (H5.out.on (Below.refl _ _).drew).y.wtAll HQ.out.2 HM.out
      have hlt : w.heap.size < w5.heap.size := by have h1 := H5.out.t; exact h1.lt
      have hinq : ∀ o ∈ ws.take p ++ [q] ++ ws.drop p, WIn o := fun o ho => by
        rcases List.mem_append.1 ho with ho | ho
        · rcases List.mem_append.1 ho with ho | ho
          · exact HI.out.1 o (List.mem_of_mem_take ho)
          · rw [List.mem_singleton.1 ho]; exact HQ.out.2
        · exact HI.out.1 o (List.mem_of_mem_drop ho)
      have hr5 := (HI.out.2.2.1.below H5.out.below).more H5.out.below.size
      have hl1 : (ws.take p).length = p := by simp; omega
      have hl3 : (ws.drop p).length = n - p := by simp [hn]
      rcases HI.out.2.2.2 with ⟨rfl, h0, rfl⟩ | ⟨ad, rfl, hnc⟩
      · have h0 : n = 0 := h0
        obtain rfl : p = 0 := by omega
        subst h0
        have HC := Lib.hid (put_call w5 none none 0 0 0 0 1 (ws.take 0) (ws.drop 0) q hl1 hl3 (by omega) (by omega) (by omega) hinq (tws_front 0 hr5) (by rw [List.drop_zero]; exact hr5))
        have HE := Lib.hid fun w6 A6 c6 hown hb => H5.out.ends (w6 := w6) (A6 := A6) (c6 := c6) (l := (ws.take 0) ++ [q] ++ (ws.drop 0)) (n := 1) (by have a1 := hl1; have a3 := hl3; rw [List.length_append, List.length_append, List.length_singleton]; omega) hown hb
        have HF := Lib.hid fun w6 (hb : Below w5.heap.size w5 w6) => (⟨(tn_box (H5.out.on hb).t).2.2.trans (by rw [← hn]), (H5.out.on hb).t.frozen 2⟩ : w6.cell? ⟨w.heap.size, 2, none⟩ = some (.slice none 0 0) ∧ w6.frozen? ⟨w.heap.size, 2, none⟩ = false)
        have HY := Lib.hid fun w6 (hb : Below w5.heap.size w5 w6) => (H5.out.on hb).y.wtAll HQ.out.2 HM.out
        have HL34 := Lib.hid (twc_len HQ.out.2)
        have HW1 : Hid (Below w5.heap.size w5 (w5.drew.alloc (.cells (twc q).toArray 49))) := Lib.hid ((Below.refl _ _).drew.alloc (Nat.le_refl _) _)
        have HW2 : Hid (Below w5.heap.size w5 ((w5.alloc (.cells (twc q).toArray 49)).alloc (.cells #[.slice none 0 0, .slice (some ⟨w5.heap.size, 0, none⟩) 1 1, .slice none 0 0] 25)).drew) := Lib.hid ((((Below.refl _ _).alloc (Nat.le_refl _) _).alloc (by simp) _).drew)
        have HP := Lib.hid (show putL q ws = (ws.take 0) ++ [q] ++ (ws.drop 0) from hput)
        generalize twc q = L at *
        clear hinq hr5 hl1 hl3 hput c0 c1
        have hS : ∀ w', Below w5.heap.size w5 w' → w'.cell? ⟨w.heap.size, 2, none⟩ = some (.slice none 0 0) ∧ (loadCellsFrom ⟨w.heap.size + 1, 0, none⟩ 0 m #[]).run Try.prog w' = .ok L.toArray w' := fun w' hb => ⟨(HF.out w' hb).1, HY.out w' hb⟩
        have HSO := Lib.hid hS
        have HS := Lib.hid (hS w5.drew (Below.refl _ _).drew)
        clear hS hld c2
        refine wp_region_heldT (fun w' => w'.cell? ⟨w.heap.size, 2, none⟩ = some (.slice none 0 0) ∧ (loadCellsFrom ⟨w.heap.size + 1, 0, none⟩ 0 m #[]).run Try.prog w' = .ok L.toArray w') 12 (by kernel_rfl) (by kernel_rfl) ?_
        refine heldT_take (i := 0) (oi := ⟨some 23, .fieldAddr _ _ _, _, _, _, _⟩) (v := ?vd0) rfl (by kernel_rfl) (by decide) (by kernel_rfl) (by kernel_rfl) (fun _ _ _ h => h) (Or.inl ⟨by rfl, ?hyd0⟩) HS.out ?restd0
        case hyd0 =>
          intro w hSw
          obtain ⟨hS0, hS1⟩ := hSw
          go_simp
          try with_reducible rfl
        try simp only [Act.put, List.setIfInBounds_toArray, List.set_cons_zero, List.set_cons_succ]
        refine heldT_take (i := 1) (oi := ⟨some 24, .load _ _, _, _, _, _⟩) (v := ?vd1) rfl (by kernel_rfl) (by decide) (by kernel_rfl) (by kernel_rfl) (fun _ _ _ h => h) (Or.inl ⟨by rfl, ?hyd1⟩) HS.out ?restd1
        case hyd1 =>
          intro w hSw
          obtain ⟨hS0, hS1⟩ := hSw
          go_simp
          try with_reducible rfl
        try simp only [Act.put, List.setIfInBounds_toArray, List.set_cons_zero, List.set_cons_succ]
        refine heldT_take (i := 2) (oi := ⟨some 25, .move _, _, _, _, _⟩) (v := ?vd2) rfl (by kernel_rfl) (by decide) (by kernel_rfl) (by kernel_rfl) (fun _ _ _ h => h) (Or.inl ⟨by rfl, ?hyd2⟩) HS.out ?restd2
        case hyd2 =>
          intro w hSw
          obtain ⟨hS0, hS1⟩ := hSw
          go_simp
          try with_reducible rfl
        try simp only [Act.put, List.setIfInBounds_toArray, List.set_cons_zero, List.set_cons_succ]
        refine heldT_take (i := 3) (oi := ⟨some 26, .slice _ _ _ _ _, _, _, _, _⟩) (v := ?vd3) rfl (by kernel_rfl) (by decide) (by kernel_rfl) (by kernel_rfl) (fun _ _ _ h => h) (Or.inl ⟨by rfl, ?hyd3⟩) HS.out ?restd3
        case hyd3 =>
          intro w hSw
          obtain ⟨hS0, hS1⟩ := hSw
          go_simp
          try with_reducible rfl
        try simp only [Act.put, List.setIfInBounds_toArray, List.set_cons_zero, List.set_cons_succ]
        refine heldT_take (i := 4) (oi := ⟨some 27, .load _ _, _, _, _, _⟩) (v := ?vd4) rfl (by kernel_rfl) (by decide) (by kernel_rfl) (by kernel_rfl) (fun _ _ _ h => h) (Or.inl ⟨by rfl, ?hyd4⟩) HS.out ?restd4
        case hyd4 =>
          intro w hSw
          obtain ⟨hS0, hS1⟩ := hSw
          go_simp
          try with_reducible rfl
        try simp only [Act.put, List.setIfInBounds_toArray, List.set_cons_zero, List.set_cons_succ]
        refine heldT_take (i := 6) (oi := ⟨some 29, .fieldAddr _ _ _, _, _, _, _⟩) (v := ?vd6) rfl (by kernel_rfl) (by decide) (by kernel_rfl) (by kernel_rfl) (fun _ _ _ h => h) (Or.inl ⟨by rfl, ?hyd6⟩) HS.out ?restd6
        case hyd6 =>
          intro w hSw
          obtain ⟨hS0, hS1⟩ := hSw
          go_simp
          try with_reducible rfl
        try simp only [Act.put, List.setIfInBounds_toArray, List.set_cons_zero, List.set_cons_succ]
        refine heldT_take (i := 7) (oi := ⟨some 30, .load _ _, _, _, _, _⟩) (v := ?vd7) rfl (by kernel_rfl) (by decide) (by kernel_rfl) (by kernel_rfl) (fun _ _ _ h => h) (Or.inl ⟨by rfl, ?hyd7⟩) HS.out ?restd7
        case hyd7 =>
          intro w hSw
          obtain ⟨hS0, hS1⟩ := hSw
          go_simp
          try with_reducible rfl
        try simp only [Act.put, List.setIfInBounds_toArray, List.set_cons_zero, List.set_cons_succ]
        refine heldT_take (i := 8) (oi := ⟨some 31, .move _, _, _, _, _⟩) (v := ?vd8) rfl (by kernel_rfl) (by decide) (by kernel_rfl) (by kernel_rfl) (fun _ _ _ h => h) (Or.inl ⟨by rfl, ?hyd8⟩) HS.out ?restd8
        case hyd8 =>
          intro w hSw
          obtain ⟨hS0, hS1⟩ := hSw
          go_simp
          try with_reducible rfl
        try simp only [Act.put, List.setIfInBounds_toArray, List.set_cons_zero, List.set_cons_succ]
        refine heldT_take (i := 9) (oi := ⟨some 32, .slice _ _ _ _ _, _, _, _, _⟩) (v := ?vd9) rfl (by kernel_rfl) (by decide) (by kernel_rfl) (by kernel_rfl) (fun _ _ _ h => h) (Or.inl ⟨by rfl, ?hyd9⟩) HS.out ?restd9
        case hyd9 =>
          intro w hSw
          obtain ⟨hS0, hS1⟩ := hSw
          go_simp
          try with_reducible rfl
        try simp only [Act.put, List.setIfInBounds_toArray, List.set_cons_zero, List.set_cons_succ]
        refine heldT_one (i := 5) (o := ⟨some 28, .buildSlice _ _ _, _, _, _, _⟩) rfl (by kernel_rfl) (by decide) (fun K hK => ?_)
        refine step_slice_one _ rfl _ _ rfl 49 _ 34 48 elemW (by decide) L HL34.out rfl ?_
        refine hK.out _ _ (HSO.out _ HW1.out) ?_
        clear hK K
        try simp only [Act.put, List.setIfInBounds_toArray, List.set_cons_zero, List.set_cons_succ]
        refine heldT_one (i := 10) (o := ⟨some 33, .buildSlice _ _ _, _, _, _, _⟩) rfl (by kernel_rfl) (by decide) (fun K hK => ?_)
        go_simp
        refine hK.out _ _ (HSO.out _ HW2.out) ?_
        clear hK K
        try simp only [Act.put, List.setIfInBounds_toArray, List.set_cons_zero, List.set_cons_succ]
        refine heldT_one (i := 11) (o := ⟨some 34, .call _, _, _, _, _⟩) rfl (by kernel_rfl) (by decide) (fun K hK => ?_)
        go_simp
        refine HC.out.mono ?_
        rintro e w6 ⟨A6, c6, rfl, hown, hb, ha⟩
        have hend := HE.out w6 A6 c6 hown hb
        rw [← HP.out] at hend
        have HEnd := Lib.hid hend
        have HB6 := Lib.hid hb
        clear hown hb ha hend
        go_wp2_with fail
        refine hK.out _ _ (HSO.out _ HB6.out) ?_
        clear hK K
        try simp only [Act.put, List.setIfInBounds_toArray, List.set_cons_zero, List.set_cons_succ]
        refine heldT_done (by kernel_rfl) ?_
        obtain ⟨c2', f2'⟩ := HF.out w6 HB6.out
        obtain ⟨k0, k1, k2⟩ := tn_box HEnd.out.t
        clear HS
        go_wp2_with (first
          | ((with_reducible refine wpList_store_var _ (o := ⟨none, .store _ (.tmp 4) _, _, _, _, _⟩) rfl 27 _ _ rfl (w.heap.size + 1 + 1) (tnc ⟨⟨id, bg, putL q ws⟩, A6, c6⟩) (tnc tz) (tn_size _) rfl (tnc_one _) rfl rfl HEnd.out.r ?_); go_loud (intro w7 x7 hg7; have HR := HEnd.out.put x7 hg7))
          | fail)
        obtain ⟨j0, j1, j2⟩ := tn_box x7
        have HQ1 := HQ.out.1
        subst HQ1
        exact bodyPost_ret (v := tval ⟨⟨id, bg, putL (clean y) ws⟩, A6, c6⟩) (by simp [results, Try.results19, go_sem, j0, j1, j2, tnc]) rfl ⟨_, rfl, rfl, HR.1, HR.2⟩
      have hnc : n ≤ cap := hnc
      by_cases hcr : cap = p
      · obtain rfl : n = p := by omega
        subst hcr
        have hl3 : (ws.drop cap).length = 0 := by omega
        have HC := Lib.hid (put_call w5 (some ad) (some ad) cap cap 0 0 (cap + 1) (ws.take cap) (ws.drop cap) q hl1 hl3 (by omega) (by omega) (by omega) hinq (tws_front cap hr5) (by rw [List.drop_of_length_le (by omega)]; exact Rd.empty))
        have HE := Lib.hid fun w6 A6 c6 hown hb => H5.out.ends (w6 := w6) (A6 := A6) (c6 := c6) (l := (ws.take cap) ++ [q] ++ (ws.drop cap)) (n := (cap + 1)) (by have a1 := hl1; have a3 := hl3; rw [List.length_append, List.length_append, List.length_singleton]; omega) hown hb
        have HF := Lib.hid fun w6 (hb : Below w5.heap.size w5 w6) => (⟨(tn_box (H5.out.on hb).t).2.2.trans (by rw [← hn]), (H5.out.on hb).t.frozen 2⟩ : w6.cell? ⟨w.heap.size, 2, none⟩ = some (.slice (some ad) cap cap) ∧ w6.frozen? ⟨w.heap.size, 2, none⟩ = false)
        have HY := Lib.hid fun w6 (hb : Below w5.heap.size w5 w6) => (H5.out.on hb).y.wtAll HQ.out.2 HM.out
        have HL34 := Lib.hid (twc_len HQ.out.2)
        have HW1 : Hid (Below w5.heap.size w5 (w5.drew.alloc (.cells (twc q).toArray 49))) := Lib.hid ((Below.refl _ _).drew.alloc (Nat.le_refl _) _)
        have HW2 : Hid (Below w5.heap.size w5 ((w5.alloc (.cells (twc q).toArray 49)).alloc (.cells #[.slice (some ad) cap cap, .slice (some ⟨w5.heap.size, 0, none⟩) 1 1, .slice (some ad) 0 0] 25)).drew) := Lib.hid ((((Below.refl _ _).alloc (Nat.le_refl _) _).alloc (by simp) _).drew)
        have HP := Lib.hid (show putL q ws = (ws.take cap) ++ [q] ++ (ws.drop cap) from hput)
        generalize twc q = L at *
        clear hinq hr5 hl1 hl3 hput c0 c1
        have hS : ∀ w', Below w5.heap.size w5 w' → w'.cell? ⟨w.heap.size, 2, none⟩ = some (.slice (some ad) cap cap) ∧ (loadCellsFrom ⟨w.heap.size + 1, 0, none⟩ 0 m #[]).run Try.prog w' = .ok L.toArray w' := fun w' hb => ⟨(HF.out w' hb).1, HY.out w' hb⟩
        have HSO := Lib.hid hS
        have HS := Lib.hid (hS w5.drew (Below.refl _ _).drew)
        clear hS hld c2
        refine wp_region_heldT (fun w' => w'.cell? ⟨w.heap.size, 2, none⟩ = some (.slice (some ad) cap cap) ∧ (loadCellsFrom ⟨w.heap.size + 1, 0, none⟩ 0 m #[]).run Try.prog w' = .ok L.toArray w') 12 (by kernel_rfl) (by kernel_rfl) ?_
        refine heldT_take (i := 0) (oi := ⟨some 23, .fieldAddr _ _ _, _, _, _, _⟩) (v := ?ve0) rfl (by kernel_rfl) (by decide) (by kernel_rfl) (by kernel_rfl) (fun _ _ _ h => h) (Or.inl ⟨by rfl, ?hye0⟩) HS.out ?reste0
        case hye0 =>
          intro w hSw
          obtain ⟨hS0, hS1⟩ := hSw
          go_simp
          try with_reducible rfl
        try simp only [Act.put, List.setIfInBounds_toArray, List.set_cons_zero, List.set_cons_succ]
        refine heldT_take (i := 1) (oi := ⟨some 24, .load _ _, _, _, _, _⟩) (v := ?ve1) rfl (by kernel_rfl) (by decide) (by kernel_rfl) (by kernel_rfl) (fun _ _ _ h => h) (Or.inl ⟨by rfl, ?hye1⟩) HS.out ?reste1
        case hye1 =>
          intro w hSw
          obtain ⟨hS0, hS1⟩ := hSw
          go_simp
          try with_reducible rfl
        try simp only [Act.put, List.setIfInBounds_toArray, List.set_cons_zero, List.set_cons_succ]
        refine heldT_take (i := 2) (oi := ⟨some 25, .move _, _, _, _, _⟩) (v := ?ve2) rfl (by kernel_rfl) (by decide) (by kernel_rfl) (by kernel_rfl) (fun _ _ _ h => h) (Or.inl ⟨by rfl, ?hye2⟩) HS.out ?reste2
        case hye2 =>
          intro w hSw
          obtain ⟨hS0, hS1⟩ := hSw
          go_simp
          try with_reducible rfl
        try simp only [Act.put, List.setIfInBounds_toArray, List.set_cons_zero, List.set_cons_succ]
        refine heldT_take (i := 3) (oi := ⟨some 26, .slice _ _ _ _ _, _, _, _, _⟩) (v := ?ve3) rfl (by kernel_rfl) (by decide) (by kernel_rfl) (by kernel_rfl) (fun _ _ _ h => h) (Or.inl ⟨by rfl, ?hye3⟩) HS.out ?reste3
        case hye3 =>
          intro w hSw
          obtain ⟨hS0, hS1⟩ := hSw
          go_simp
          try with_reducible rfl
        try simp only [Act.put, List.setIfInBounds_toArray, List.set_cons_zero, List.set_cons_succ]
        refine heldT_take (i := 4) (oi := ⟨some 27, .load _ _, _, _, _, _⟩) (v := ?ve4) rfl (by kernel_rfl) (by decide) (by kernel_rfl) (by kernel_rfl) (fun _ _ _ h => h) (Or.inl ⟨by rfl, ?hye4⟩) HS.out ?reste4
        case hye4 =>
          intro w hSw
          obtain ⟨hS0, hS1⟩ := hSw
          go_simp
          try with_reducible rfl
        try simp only [Act.put, List.setIfInBounds_toArray, List.set_cons_zero, List.set_cons_succ]
        refine heldT_take (i := 6) (oi := ⟨some 29, .fieldAddr _ _ _, _, _, _, _⟩) (v := ?ve6) rfl (by kernel_rfl) (by decide) (by kernel_rfl) (by kernel_rfl) (fun _ _ _ h => h) (Or.inl ⟨by rfl, ?hye6⟩) HS.out ?reste6
        case hye6 =>
          intro w hSw
          obtain ⟨hS0, hS1⟩ := hSw
          go_simp
          try with_reducible rfl
        try simp only [Act.put, List.setIfInBounds_toArray, List.set_cons_zero, List.set_cons_succ]
        refine heldT_take (i := 7) (oi := ⟨some 30, .load _ _, _, _, _, _⟩) (v := ?ve7) rfl (by kernel_rfl) (by decide) (by kernel_rfl) (by kernel_rfl) (fun _ _ _ h => h) (Or.inl ⟨by rfl, ?hye7⟩) HS.out ?reste7
        case hye7 =>
          intro w hSw
          obtain ⟨hS0, hS1⟩ := hSw
          go_simp
          try with_reducible rfl
        try simp only [Act.put, List.setIfInBounds_toArray, List.set_cons_zero, List.set_cons_succ]
        refine heldT_take (i := 8) (oi := ⟨some 31, .move _, _, _, _, _⟩) (v := ?ve8) rfl (by kernel_rfl) (by decide) (by kernel_rfl) (by kernel_rfl) (fun _ _ _ h => h) (Or.inl ⟨by rfl, ?hye8⟩) HS.out ?reste8
        case hye8 =>
          intro w hSw
          obtain ⟨hS0, hS1⟩ := hSw
          go_simp
          try with_reducible rfl
        try simp only [Act.put, List.setIfInBounds_toArray, List.set_cons_zero, List.set_cons_succ]
        refine heldT_take (i := 9) (oi := ⟨some 32, .slice _ _ _ _ _, _, _, _, _⟩) (v := ?ve9) rfl (by kernel_rfl) (by decide) (by kernel_rfl) (by kernel_rfl) (fun _ _ _ h => h) (Or.inl ⟨by rfl, ?hye9⟩) HS.out ?reste9
        case hye9 =>
          intro w hSw
          obtain ⟨hS0, hS1⟩ := hSw
          go_simp
          try with_reducible rfl
        try simp only [Act.put, List.setIfInBounds_toArray, List.set_cons_zero, List.set_cons_succ]
        refine heldT_one (i := 5) (o := ⟨some 28, .buildSlice _ _ _, _, _, _, _⟩) rfl (by kernel_rfl) (by decide) (fun K hK => ?_)
        refine step_slice_one _ rfl _ _ rfl 49 _ 34 48 elemW (by decide) L HL34.out rfl ?_
        refine hK.out _ _ (HSO.out _ HW1.out) ?_
        clear hK K
        try simp only [Act.put, List.setIfInBounds_toArray, List.set_cons_zero, List.set_cons_succ]
        refine heldT_one (i := 10) (o := ⟨some 33, .buildSlice _ _ _, _, _, _, _⟩) rfl (by kernel_rfl) (by decide) (fun K hK => ?_)
        go_simp
        refine hK.out _ _ (HSO.out _ HW2.out) ?_
        clear hK K
        try simp only [Act.put, List.setIfInBounds_toArray, List.set_cons_zero, List.set_cons_succ]
        refine heldT_one (i := 11) (o := ⟨some 34, .call _, _, _, _, _⟩) rfl (by kernel_rfl) (by decide) (fun K hK => ?_)
        go_simp
        refine HC.out.mono ?_
        rintro e w6 ⟨A6, c6, rfl, hown, hb, ha⟩
        have hend := HE.out w6 A6 c6 hown hb
        rw [← HP.out] at hend
        have HEnd := Lib.hid hend
        have HB6 := Lib.hid hb
        clear hown hb ha hend
        go_wp2_with fail
        refine hK.out _ _ (HSO.out _ HB6.out) ?_
        clear hK K
        try simp only [Act.put, List.setIfInBounds_toArray, List.set_cons_zero, List.set_cons_succ]
        refine heldT_done (by kernel_rfl) ?_
        obtain ⟨c2', f2'⟩ := HF.out w6 HB6.out
        obtain ⟨k0, k1, k2⟩ := tn_box HEnd.out.t
        clear HS
        go_wp2_with (first
          | ((with_reducible refine wpList_store_var _ (o := ⟨none, .store _ (.tmp 4) _, _, _, _, _⟩) rfl 27 _ _ rfl (w.heap.size + 1 + 1) (tnc ⟨⟨id, bg, putL q ws⟩, A6, c6⟩) (tnc tz) (tn_size _) rfl (tnc_one _) rfl rfl HEnd.out.r ?_); go_loud (intro w7 x7 hg7; have HR := HEnd.out.put x7 hg7))
          | fail)
        obtain ⟨j0, j1, j2⟩ := tn_box x7
        have HQ1 := HQ.out.1
        subst HQ1
        exact bodyPost_ret (v := tval ⟨⟨id, bg, putL (clean y) ws⟩, A6, c6⟩) (by simp [results, Try.results19, go_sem, j0, j1, j2, tnc]) rfl ⟨_, rfl, rfl, HR.1, HR.2⟩
      have hpi : (p : Int) ≤ (n : Int) := by omega
      have hpc : (p : Int) ≤ (cap : Int) := by omega
      have HC := Lib.hid (put_call w5 (some ad) (some (ad.add (p * m))) p cap (n - p) (cap - p) (n + 1) (ws.take p) (ws.drop p) q hl1 hl3 (by omega) (by omega) (by omega) hinq (tws_front p hr5) (by rw [tws_drop _ _ HI.out.1, HM.out]; exact hr5.tail))
      have HE := Lib.hid fun w6 A6 c6 hown hb => H5.out.ends (w6 := w6) (A6 := A6) (c6 := c6) (l := (ws.take p) ++ [q] ++ (ws.drop p)) (n := (n + 1)) (by have a1 := hl1; have a3 := hl3; rw [List.length_append, List.length_append, List.length_singleton]; omega) hown hb
      have HF := Lib.hid fun w6 (hb : Below w5.heap.size w5 w6) => (⟨(tn_box (H5.out.on hb).t).2.2.trans (by rw [← hn]), (H5.out.on hb).t.frozen 2⟩ : w6.cell? ⟨w.heap.size, 2, none⟩ = some (.slice (some ad) n cap) ∧ w6.frozen? ⟨w.heap.size, 2, none⟩ = false)
      have HY := Lib.hid fun w6 (hb : Below w5.heap.size w5 w6) => (H5.out.on hb).y.wtAll HQ.out.2 HM.out
      have HL34 := Lib.hid (twc_len HQ.out.2)
      have HW1 : Hid (Below w5.heap.size w5 (w5.drew.alloc (.cells (twc q).toArray 49))) := Lib.hid ((Below.refl _ _).drew.alloc (Nat.le_refl _) _)
      have HW2 : Hid (Below w5.heap.size w5 ((w5.alloc (.cells (twc q).toArray 49)).alloc (.cells #[.slice (some ad) p cap, .slice (some ⟨w5.heap.size, 0, none⟩) 1 1, .slice (some (ad.add (p * m))) (n - p) (cap - p)] 25)).drew) := Lib.hid ((((Below.refl _ _).alloc (Nat.le_refl _) _).alloc (by simp) _).drew)
      have HP := Lib.hid (show putL q ws = (ws.take p) ++ [q] ++ (ws.drop p) from hput)
      generalize twc q = L at *
      clear hinq hr5 hl1 hl3 hput c0 c1
      have hS : ∀ w', Below w5.heap.size w5 w' → w'.cell? ⟨w.heap.size, 2, none⟩ = some (.slice (some ad) n cap) ∧ (loadCellsFrom ⟨w.heap.size + 1, 0, none⟩ 0 m #[]).run Try.prog w' = .ok L.toArray w' := fun w' hb => ⟨(HF.out w' hb).1, HY.out w' hb⟩
      have HSO := Lib.hid hS
      have HS := Lib.hid (hS w5.drew (Below.refl _ _).drew)
      clear hS hld c2
      refine wp_region_heldT (fun w' => w'.cell? ⟨w.heap.size, 2, none⟩ = some (.slice (some ad) n cap) ∧ (loadCellsFrom ⟨w.heap.size + 1, 0, none⟩ 0 m #[]).run Try.prog w' = .ok L.toArray w') 12 (by kernel_rfl) (by kernel_rfl) ?_
      refine heldT_take (i := 0) (oi := ⟨some 23, .fieldAddr _ _ _, _, _, _, _⟩) (v := ?vf0) rfl (by kernel_rfl) (by decide) (by kernel_rfl) (by kernel_rfl) (fun _ _ _ h => h) (Or.inl ⟨by rfl, ?hyf0⟩) HS.out ?restf0
      case hyf0 =>
        intro w hSw
        obtain ⟨hS0, hS1⟩ := hSw
        go_simp
        try with_reducible rfl
      try simp only [Act.put, List.setIfInBounds_toArray, List.set_cons_zero, List.set_cons_succ]
      refine heldT_take (i := 1) (oi := ⟨some 24, .load _ _, _, _, _, _⟩) (v := ?vf1) rfl (by kernel_rfl) (by decide) (by kernel_rfl) (by kernel_rfl) (fun _ _ _ h => h) (Or.inl ⟨by rfl, ?hyf1⟩) HS.out ?restf1
      case hyf1 =>
        intro w hSw
        obtain ⟨hS0, hS1⟩ := hSw
        go_simp
        try with_reducible rfl
      try simp only [Act.put, List.setIfInBounds_toArray, List.set_cons_zero, List.set_cons_succ]
      refine heldT_take (i := 2) (oi := ⟨some 25, .move _, _, _, _, _⟩) (v := ?vf2) rfl (by kernel_rfl) (by decide) (by kernel_rfl) (by kernel_rfl) (fun _ _ _ h => h) (Or.inl ⟨by rfl, ?hyf2⟩) HS.out ?restf2
      case hyf2 =>
        intro w hSw
        obtain ⟨hS0, hS1⟩ := hSw
        go_simp
        try with_reducible rfl
      try simp only [Act.put, List.setIfInBounds_toArray, List.set_cons_zero, List.set_cons_succ]
      refine heldT_take (i := 3) (oi := ⟨some 26, .slice _ _ _ _ _, _, _, _, _⟩) (v := ?vf3) rfl (by kernel_rfl) (by decide) (by kernel_rfl) (by kernel_rfl) (fun _ _ _ h => h) (Or.inl ⟨by rfl, ?hyf3⟩) HS.out ?restf3
      case hyf3 =>
        intro w hSw
        obtain ⟨hS0, hS1⟩ := hSw
        go_simp
        try with_reducible rfl
      try simp only [Act.put, List.setIfInBounds_toArray, List.set_cons_zero, List.set_cons_succ]
      refine heldT_take (i := 4) (oi := ⟨some 27, .load _ _, _, _, _, _⟩) (v := ?vf4) rfl (by kernel_rfl) (by decide) (by kernel_rfl) (by kernel_rfl) (fun _ _ _ h => h) (Or.inl ⟨by rfl, ?hyf4⟩) HS.out ?restf4
      case hyf4 =>
        intro w hSw
        obtain ⟨hS0, hS1⟩ := hSw
        go_simp
        try with_reducible rfl
      try simp only [Act.put, List.setIfInBounds_toArray, List.set_cons_zero, List.set_cons_succ]
      refine heldT_take (i := 6) (oi := ⟨some 29, .fieldAddr _ _ _, _, _, _, _⟩) (v := ?vf6) rfl (by kernel_rfl) (by decide) (by kernel_rfl) (by kernel_rfl) (fun _ _ _ h => h) (Or.inl ⟨by rfl, ?hyf6⟩) HS.out ?restf6
      case hyf6 =>
        intro w hSw
        obtain ⟨hS0, hS1⟩ := hSw
        go_simp
        try with_reducible rfl
      try simp only [Act.put, List.setIfInBounds_toArray, List.set_cons_zero, List.set_cons_succ]
      refine heldT_take (i := 7) (oi := ⟨some 30, .load _ _, _, _, _, _⟩) (v := ?vf7) rfl (by kernel_rfl) (by decide) (by kernel_rfl) (by kernel_rfl) (fun _ _ _ h => h) (Or.inl ⟨by rfl, ?hyf7⟩) HS.out ?restf7
      case hyf7 =>
        intro w hSw
        obtain ⟨hS0, hS1⟩ := hSw
        go_simp
        try with_reducible rfl
      try simp only [Act.put, List.setIfInBounds_toArray, List.set_cons_zero, List.set_cons_succ]
      refine heldT_take (i := 8) (oi := ⟨some 31, .move _, _, _, _, _⟩) (v := ?vf8) rfl (by kernel_rfl) (by decide) (by kernel_rfl) (by kernel_rfl) (fun _ _ _ h => h) (Or.inl ⟨by rfl, ?hyf8⟩) HS.out ?restf8
      case hyf8 =>
        intro w hSw
        obtain ⟨hS0, hS1⟩ := hSw
        go_simp
        try with_reducible rfl
      try simp only [Act.put, List.setIfInBounds_toArray, List.set_cons_zero, List.set_cons_succ]
      refine heldT_take (i := 9) (oi := ⟨some 32, .slice _ _ _ _ _, _, _, _, _⟩) (v := ?vf9) rfl (by kernel_rfl) (by decide) (by kernel_rfl) (by kernel_rfl) (fun _ _ _ h => h) (Or.inl ⟨by rfl, ?hyf9⟩) HS.out ?restf9
      case hyf9 =>
        intro w hSw
        obtain ⟨hS0, hS1⟩ := hSw
        go_simp
        try with_reducible rfl
      try simp only [Act.put, List.setIfInBounds_toArray, List.set_cons_zero, List.set_cons_succ]
      refine heldT_one (i := 5) (o := ⟨some 28, .buildSlice _ _ _, _, _, _, _⟩) rfl (by kernel_rfl) (by decide) (fun K hK => ?_)
      refine step_slice_one _ rfl _ _ rfl 49 _ 34 48 elemW (by decide) L HL34.out rfl ?_
      refine hK.out _ _ (HSO.out _ HW1.out) ?_
      clear hK K
      try simp only [Act.put, List.setIfInBounds_toArray, List.set_cons_zero, List.set_cons_succ]
      refine heldT_one (i := 10) (o := ⟨some 33, .buildSlice _ _ _, _, _, _, _⟩) rfl (by kernel_rfl) (by decide) (fun K hK => ?_)
      go_simp
      refine hK.out _ _ (HSO.out _ HW2.out) ?_
      clear hK K
      try simp only [Act.put, List.setIfInBounds_toArray, List.set_cons_zero, List.set_cons_succ]
      refine heldT_one (i := 11) (o := ⟨some 34, .call _, _, _, _, _⟩) rfl (by kernel_rfl) (by decide) (fun K hK => ?_)
      go_simp
      refine HC.out.mono ?_
      rintro e w6 ⟨A6, c6, rfl, hown, hb, ha⟩
      have hend := HE.out w6 A6 c6 hown hb
      rw [← HP.out] at hend
      have HEnd := Lib.hid hend
      have HB6 := Lib.hid hb
      clear hown hb ha hend
      go_wp2_with fail
      refine hK.out _ _ (HSO.out _ HB6.out) ?_
      clear hK K
      try simp only [Act.put, List.setIfInBounds_toArray, List.set_cons_zero, List.set_cons_succ]
      refine heldT_done (by kernel_rfl) ?_
      obtain ⟨c2', f2'⟩ := HF.out w6 HB6.out
      obtain ⟨k0, k1, k2⟩ := tn_box HEnd.out.t
      clear HS
      go_wp2_with (first
        | ((with_reducible refine wpList_store_var _ (o := ⟨none, .store _ (.tmp 4) _, _, _, _, _⟩) rfl 27 _ _ rfl (w.heap.size + 1 + 1) (tnc ⟨⟨id, bg, putL q ws⟩, A6, c6⟩) (tnc tz) (tn_size _) rfl (tnc_one _) rfl rfl HEnd.out.r ?_); go_loud (intro w7 x7 hg7; have HR := HEnd.out.put x7 hg7))
        | fail)
      obtain ⟨j0, j1, j2⟩ := tn_box x7
      have HQ1 := HQ.out.1
      subst HQ1
      exact bodyPost_ret (v := tval ⟨⟨id, bg, putL (clean y) ws⟩, A6, c6⟩) (by simp [results, Try.results19, go_sem, j0, j1, j2, tnc]) rfl ⟨_, rfl, rfl, HR.1, HR.2⟩
  · have HTr := Lib.hid (And.intro htr (HL.out htr))
    clear htr hq hci hy
    go_enter Try.func19, Try.ntmps19
    go_wp2_with (first
      | ((with_reducible refine wpList_box_box _ (o := ⟨some 2, .box _ _, _, _, _, _⟩) rfl _ _ rfl (tnc ⟨⟨id, bg, ws⟩, A, cap⟩) rfl ?_); intro w1 x1 B1 s1)
      | ((with_reducible refine wpList_wt_box (o := ⟨some 3, .box _ _, _, _, _, _⟩) rfl _ rfl y rfl ?_); intro w2 x2 B2 s2; rw [s1]; rw [s1] at x2 s2)
      | ((with_reducible refine wpList_alloc_box _ (o := ⟨some 4, .alloc _, _, _, _, _⟩) rfl _ rfl (tnc tz) zero_tn ?_); intro w3 x3 B3 s3; rw [s2]; rw [s2] at x3; have H3 : Hid (PuSt w w3 ⟨⟨id, bg, ws⟩, A, cap⟩ y) := Lib.hid ⟨bthen (bthen B1 B2) B3, x1.on (bthen B2 B3), x2.on B3, x3⟩; have ct := (x2.on B3).wt.2; rw [HTr.out.1] at ct; clear x1 B1 s1 x2 B2 s2 x3 B3 s3)
      | ((with_reducible refine wpList_build_zero _ (o := ⟨some 10, .build _ _, _, _, _, _⟩) rfl _ rfl (bs d32) build_wd0 ?_))
      | ((with_reducible refine wpList_store_midbox _ (o := ⟨none, .store _ _ _, _, _, _, _⟩) rfl 47 _ _ rfl (w.heap.size + 1) 2 49 (twc y) (bs d32) HD.out.1 (by rw [HD.out.2, HYl.out]; decide) (bs_one _) rfl rfl H3.out.y ?_); go_loud (intro w4 x4 hg4 s4; rw [HTr.out.2] at x4; have H4 := Lib.hid (H3.out.put hg4 x4); clear x4 hg4 s4 ct; obtain ⟨c0, c1, c2⟩ := tn_box H4.out.t; have cb := H4.out.y.wt.1))
      | fail)
    refine (writeOf_any ⟨⟨id, bg, ws⟩, A, cap⟩ q.b w4 (Nat.le_trans hm (by decide)) HI.out.1 HI.out.2.1 ((HI.out.2.2.1.below H4.out.below).more H4.out.below.size)).mono ?_
    rintro e w5 ⟨rfl, hb⟩
    have H5 := Lib.hid (H4.out.on hb)
    clear hb c0 c1 c2 cb H4
    simp only at *
    by_cases hh : hit q.b (keys ws) = true
    · skip
      rw [hh]
      have hpl := hit_lt hh
      rw [List.length_map] at hpl
      have hput : putL q ws = ws.take (pos q.b (keys ws)) ++ [q] ++ ws.drop (pos q.b (keys ws) + 1) := by unfold putL; rw [hh]; rfl
      generalize hp : pos q.b (keys ws) = p at *
      obtain ⟨c0, c1, c2⟩ := tn_box H5.out.t
      simp only at c2
      go_wp2_with fail
      generalize hn : ws.length = n at *
      have hld : (loadCellsFrom ⟨w.heap.size + 1, 0, none⟩ 0 m #[]).run Try.prog w5.drew = .ok (twc q).toArray w5.drew := (H5.out.on (Below.refl _ _).drew).y.wtAll HQ.out.2 HM.out
      have hlt : w.heap.size < w5.heap.size := by have h1 := H5.out.t; exact h1.lt
      have hinq : ∀ o ∈ ws.take p ++ [q] ++ ws.drop (p + 1), WIn o := fun o ho => by
        rcases List.mem_append.1 ho with ho | ho
        · rcases List.mem_append.1 ho with ho | ho
          · exact HI.out.1 o (List.mem_of_mem_take ho)
          · rw [List.mem_singleton.1 ho]; exact HQ.out.2
        · exact HI.out.1 o (List.mem_of_mem_drop ho)
      have hr5 := (HI.out.2.2.1.below H5.out.below).more H5.out.below.size
      have hl1 : (ws.take p).length = p := by simp; omega
      have hl3 : (ws.drop (p + 1)).length = n - (p + 1) := by simp [hn]
      rcases HI.out.2.2.2 with ⟨rfl, h0, rfl⟩ | ⟨ad, rfl, hnc⟩
      · exact absurd (show n = 0 from h0) (by omega)
      have hnc : n ≤ cap := hnc
      by_cases hcr : cap = (p + 1)
      · obtain rfl : cap = n := by omega
        have hpl1 : p + 1 = cap := by omega
        have hq : (p : Int) + 1 = (cap : Int) := by omega
        have hpi : (p : Int) ≤ (cap : Int) := by omega
        have hl3 : (ws.drop cap).length = 0 := by rw [List.length_drop]; omega
        rw [hq]
        rw [show p + 1 = cap by omega] at hput hinq
        clear hq
        have HC := Lib.hid (put_call w5 (some ad) (some ad) p cap 0 0 cap (ws.take p) (ws.drop cap) q hl1 hl3 (by omega) (by omega) (by omega) hinq (tws_front p hr5) (by rw [List.drop_of_length_le (by omega)]; exact Rd.empty))
        have HE := Lib.hid fun w6 A6 c6 hown hb => H5.out.ends (w6 := w6) (A6 := A6) (c6 := c6) (l := (ws.take p) ++ [q] ++ (ws.drop cap)) (n := cap) (by have a1 := hl1; have a3 := hl3; rw [List.length_append, List.length_append, List.length_singleton]; omega) hown hb
        have HF := Lib.hid fun w6 (hb : Below w5.heap.size w5 w6) => (⟨(tn_box (H5.out.on hb).t).2.2.trans (by rw [← hn]), (H5.out.on hb).t.frozen 2⟩ : w6.cell? ⟨w.heap.size, 2, none⟩ = some (.slice (some ad) cap cap) ∧ w6.frozen? ⟨w.heap.size, 2, none⟩ = false)
        have HY := Lib.hid fun w6 (hb : Below w5.heap.size w5 w6) => (H5.out.on hb).y.wtAll HQ.out.2 HM.out
        have HL34 := Lib.hid (twc_len HQ.out.2)
        have HW1 : Hid (Below w5.heap.size w5 (w5.drew.alloc (.cells (twc q).toArray 49))) := Lib.hid ((Below.refl _ _).drew.alloc (Nat.le_refl _) _)
        have HW2 : Hid (Below w5.heap.size w5 ((w5.alloc (.cells (twc q).toArray 49)).alloc (.cells #[.slice (some ad) p cap, .slice (some ⟨w5.heap.size, 0, none⟩) 1 1, .slice (some ad) 0 0] 25)).drew) := Lib.hid ((((Below.refl _ _).alloc (Nat.le_refl _) _).alloc (by simp) _).drew)
        have HP := Lib.hid (show putL q ws = (ws.take p) ++ [q] ++ (ws.drop cap) from hput)
        generalize twc q = L at *
        clear hinq hr5 hl1 hl3 hput c0 c1 hpl1 hcr
        have hS : ∀ w', Below w5.heap.size w5 w' → w'.cell? ⟨w.heap.size, 2, none⟩ = some (.slice (some ad) cap cap) ∧ (loadCellsFrom ⟨w.heap.size + 1, 0, none⟩ 0 m #[]).run Try.prog w' = .ok L.toArray w' := fun w' hb => ⟨(HF.out w' hb).1, HY.out w' hb⟩
        have HSO := Lib.hid hS
        have HS := Lib.hid (hS w5.drew (Below.refl _ _).drew)
        clear hS hld c2
        refine wp_region_heldT (fun w' => w'.cell? ⟨w.heap.size, 2, none⟩ = some (.slice (some ad) cap cap) ∧ (loadCellsFrom ⟨w.heap.size + 1, 0, none⟩ 0 m #[]).run Try.prog w' = .ok L.toArray w') 12 (by kernel_rfl) (by kernel_rfl) ?_
        refine heldT_take (i := 0) (oi := ⟨some 23, .fieldAddr _ _ _, _, _, _, _⟩) (v := ?vg0) rfl (by kernel_rfl) (by decide) (by kernel_rfl) (by kernel_rfl) (fun _ _ _ h => h) (Or.inl ⟨by rfl, ?hyg0⟩) HS.out ?restg0
        case hyg0 =>
          intro w hSw
          obtain ⟨hS0, hS1⟩ := hSw
          go_simp
          try with_reducible rfl
        try simp only [Act.put, List.setIfInBounds_toArray, List.set_cons_zero, List.set_cons_succ]
        refine heldT_take (i := 1) (oi := ⟨some 24, .load _ _, _, _, _, _⟩) (v := ?vg1) rfl (by kernel_rfl) (by decide) (by kernel_rfl) (by kernel_rfl) (fun _ _ _ h => h) (Or.inl ⟨by rfl, ?hyg1⟩) HS.out ?restg1
        case hyg1 =>
          intro w hSw
          obtain ⟨hS0, hS1⟩ := hSw
          go_simp
          try with_reducible rfl
        try simp only [Act.put, List.setIfInBounds_toArray, List.set_cons_zero, List.set_cons_succ]
        refine heldT_take (i := 2) (oi := ⟨some 25, .move _, _, _, _, _⟩) (v := ?vg2) rfl (by kernel_rfl) (by decide) (by kernel_rfl) (by kernel_rfl) (fun _ _ _ h => h) (Or.inl ⟨by rfl, ?hyg2⟩) HS.out ?restg2
        case hyg2 =>
          intro w hSw
          obtain ⟨hS0, hS1⟩ := hSw
          go_simp
          try with_reducible rfl
        try simp only [Act.put, List.setIfInBounds_toArray, List.set_cons_zero, List.set_cons_succ]
        refine heldT_take (i := 3) (oi := ⟨some 26, .slice _ _ _ _ _, _, _, _, _⟩) (v := ?vg3) rfl (by kernel_rfl) (by decide) (by kernel_rfl) (by kernel_rfl) (fun _ _ _ h => h) (Or.inl ⟨by rfl, ?hyg3⟩) HS.out ?restg3
        case hyg3 =>
          intro w hSw
          obtain ⟨hS0, hS1⟩ := hSw
          go_simp
          try with_reducible rfl
        try simp only [Act.put, List.setIfInBounds_toArray, List.set_cons_zero, List.set_cons_succ]
        refine heldT_take (i := 4) (oi := ⟨some 27, .load _ _, _, _, _, _⟩) (v := ?vg4) rfl (by kernel_rfl) (by decide) (by kernel_rfl) (by kernel_rfl) (fun _ _ _ h => h) (Or.inl ⟨by rfl, ?hyg4⟩) HS.out ?restg4
        case hyg4 =>
          intro w hSw
          obtain ⟨hS0, hS1⟩ := hSw
          go_simp
          try with_reducible rfl
        try simp only [Act.put, List.setIfInBounds_toArray, List.set_cons_zero, List.set_cons_succ]
        refine heldT_take (i := 6) (oi := ⟨some 29, .fieldAddr _ _ _, _, _, _, _⟩) (v := ?vg6) rfl (by kernel_rfl) (by decide) (by kernel_rfl) (by kernel_rfl) (fun _ _ _ h => h) (Or.inl ⟨by rfl, ?hyg6⟩) HS.out ?restg6
        case hyg6 =>
          intro w hSw
          obtain ⟨hS0, hS1⟩ := hSw
          go_simp
          try with_reducible rfl
        try simp only [Act.put, List.setIfInBounds_toArray, List.set_cons_zero, List.set_cons_succ]
        refine heldT_take (i := 7) (oi := ⟨some 30, .load _ _, _, _, _, _⟩) (v := ?vg7) rfl (by kernel_rfl) (by decide) (by kernel_rfl) (by kernel_rfl) (fun _ _ _ h => h) (Or.inl ⟨by rfl, ?hyg7⟩) HS.out ?restg7
        case hyg7 =>
          intro w hSw
          obtain ⟨hS0, hS1⟩ := hSw
          go_simp
          try with_reducible rfl
        try simp only [Act.put, List.setIfInBounds_toArray, List.set_cons_zero, List.set_cons_succ]
        refine heldT_take (i := 8) (oi := ⟨some 31, .move _, _, _, _, _⟩) (v := ?vg8) rfl (by kernel_rfl) (by decide) (by kernel_rfl) (by kernel_rfl) (fun _ _ _ h => h) (Or.inl ⟨by rfl, ?hyg8⟩) HS.out ?restg8
        case hyg8 =>
          intro w hSw
          obtain ⟨hS0, hS1⟩ := hSw
          go_simp
          try with_reducible rfl
        try simp only [Act.put, List.setIfInBounds_toArray, List.set_cons_zero, List.set_cons_succ]
        refine heldT_take (i := 9) (oi := ⟨some 32, .slice _ _ _ _ _, _, _, _, _⟩) (v := ?vg9) rfl (by kernel_rfl) (by decide) (by kernel_rfl) (by kernel_rfl) (fun _ _ _ h => h) (Or.inl ⟨by rfl, ?hyg9⟩) HS.out ?restg9
        case hyg9 =>
          intro w hSw
          obtain ⟨hS0, hS1⟩ := hSw
          go_simp
          try with_reducible rfl
        try simp only [Act.put, List.setIfInBounds_toArray, List.set_cons_zero, List.set_cons_succ]
        refine heldT_one (i := 5) (o := ⟨some 28, .buildSlice _ _ _, _, _, _, _⟩) rfl (by kernel_rfl) (by decide) (fun K hK => ?_)
        refine step_slice_one _ rfl _ _ rfl 49 _ 34 48 elemW (by decide) L HL34.out rfl ?_
        refine hK.out _ _ (HSO.out _ HW1.out) ?_
        clear hK K
        try simp only [Act.put, List.setIfInBounds_toArray, List.set_cons_zero, List.set_cons_succ]
        refine heldT_one (i := 10) (o := ⟨some 33, .buildSlice _ _ _, _, _, _, _⟩) rfl (by kernel_rfl) (by decide) (fun K hK => ?_)
        go_simp
        refine hK.out _ _ (HSO.out _ HW2.out) ?_
        clear hK K
        try simp only [Act.put, List.setIfInBounds_toArray, List.set_cons_zero, List.set_cons_succ]
        refine heldT_one (i := 11) (o := ⟨some 34, .call _, _, _, _, _⟩) rfl (by kernel_rfl) (by decide) (fun K hK => ?_)
        go_simp
        refine HC.out.mono ?_
        rintro e w6 ⟨A6, c6, rfl, hown, hb, ha⟩
        have hend := HE.out w6 A6 c6 hown hb
        rw [← HP.out] at hend
        have HEnd := Lib.hid hend
        have HB6 := Lib.hid hb
        clear hown hb ha hend
        go_wp2_with fail
        refine hK.out _ _ (HSO.out _ HB6.out) ?_
        clear hK K
        try simp only [Act.put, List.setIfInBounds_toArray, List.set_cons_zero, List.set_cons_succ]
        refine heldT_done (by kernel_rfl) ?_
        obtain ⟨c2', f2'⟩ := HF.out w6 HB6.out
        obtain ⟨k0, k1, k2⟩ := tn_box HEnd.out.t
        clear HS
        go_wp2_with (first
          | ((with_reducible refine wpList_store_var _ (o := ⟨none, .store _ (.tmp 4) _, _, _, _, _⟩) rfl 27 _ _ rfl (w.heap.size + 1 + 1) (tnc ⟨⟨id, bg, putL q ws⟩, A6, c6⟩) (tnc tz) (tn_size _) rfl (tnc_one _) rfl rfl HEnd.out.r ?_); go_loud (intro w7 x7 hg7; have HR := HEnd.out.put x7 hg7))
          | fail)
        obtain ⟨j0, j1, j2⟩ := tn_box x7
        have HQ1 := HQ.out.1
        subst HQ1
        exact bodyPost_ret (v := tval ⟨⟨id, bg, putL (clean y) ws⟩, A6, c6⟩) (by simp [results, Try.results19, go_sem, j0, j1, j2, tnc]) rfl ⟨_, rfl, rfl, HR.1, HR.2⟩
      have hpi : (p : Int) + 1 ≤ (n : Int) := by omega
      have hpc : (p : Int) ≤ (cap : Int) := by omega
      have hp0 : (0 : Int) ≤ (p : Int) + 1 := by omega
      have HC := Lib.hid (put_call w5 (some ad) (some (ad.add ((p + 1) * m))) p cap (n - (p + 1)) (cap - (p + 1)) n (ws.take p) (ws.drop (p + 1)) q hl1 hl3 (by omega) (by omega) (by omega) hinq (tws_front p hr5) (by rw [tws_drop _ _ HI.out.1, HM.out]; exact hr5.tail))
      have HE := Lib.hid fun w6 A6 c6 hown hb => H5.out.ends (w6 := w6) (A6 := A6) (c6 := c6) (l := (ws.take p) ++ [q] ++ (ws.drop (p + 1))) (n := n) (by have a1 := hl1; have a3 := hl3; rw [List.length_append, List.length_append, List.length_singleton]; omega) hown hb
      have HF := Lib.hid fun w6 (hb : Below w5.heap.size w5 w6) => (⟨(tn_box (H5.out.on hb).t).2.2.trans (by rw [← hn]), (H5.out.on hb).t.frozen 2⟩ : w6.cell? ⟨w.heap.size, 2, none⟩ = some (.slice (some ad) n cap) ∧ w6.frozen? ⟨w.heap.size, 2, none⟩ = false)
      have HY := Lib.hid fun w6 (hb : Below w5.heap.size w5 w6) => (H5.out.on hb).y.wtAll HQ.out.2 HM.out
      have HL34 := Lib.hid (twc_len HQ.out.2)
      have HW1 : Hid (Below w5.heap.size w5 (w5.drew.alloc (.cells (twc q).toArray 49))) := Lib.hid ((Below.refl _ _).drew.alloc (Nat.le_refl _) _)
      have HW2 : Hid (Below w5.heap.size w5 ((w5.alloc (.cells (twc q).toArray 49)).alloc (.cells #[.slice (some ad) p cap, .slice (some ⟨w5.heap.size, 0, none⟩) 1 1, .slice (some (ad.add ((p + 1) * m))) (n - (p + 1)) (cap - (p + 1))] 25)).drew) := Lib.hid ((((Below.refl _ _).alloc (Nat.le_refl _) _).alloc (by simp) _).drew)
      have HP := Lib.hid (show putL q ws = (ws.take p) ++ [q] ++ (ws.drop (p + 1)) from hput)
      generalize twc q = L at *
      clear hinq hr5 hl1 hl3 hput c0 c1
      have hS : ∀ w', Below w5.heap.size w5 w' → w'.cell? ⟨w.heap.size, 2, none⟩ = some (.slice (some ad) n cap) ∧ (loadCellsFrom ⟨w.heap.size + 1, 0, none⟩ 0 m #[]).run Try.prog w' = .ok L.toArray w' := fun w' hb => ⟨(HF.out w' hb).1, HY.out w' hb⟩
      have HSO := Lib.hid hS
      have HS := Lib.hid (hS w5.drew (Below.refl _ _).drew)
      clear hS hld c2
      refine wp_region_heldT (fun w' => w'.cell? ⟨w.heap.size, 2, none⟩ = some (.slice (some ad) n cap) ∧ (loadCellsFrom ⟨w.heap.size + 1, 0, none⟩ 0 m #[]).run Try.prog w' = .ok L.toArray w') 12 (by kernel_rfl) (by kernel_rfl) ?_
      refine heldT_take (i := 0) (oi := ⟨some 23, .fieldAddr _ _ _, _, _, _, _⟩) (v := ?vh0) rfl (by kernel_rfl) (by decide) (by kernel_rfl) (by kernel_rfl) (fun _ _ _ h => h) (Or.inl ⟨by rfl, ?hyh0⟩) HS.out ?resth0
      case hyh0 =>
        intro w hSw
        obtain ⟨hS0, hS1⟩ := hSw
        go_simp
        try with_reducible rfl
      try simp only [Act.put, List.setIfInBounds_toArray, List.set_cons_zero, List.set_cons_succ]
      refine heldT_take (i := 1) (oi := ⟨some 24, .load _ _, _, _, _, _⟩) (v := ?vh1) rfl (by kernel_rfl) (by decide) (by kernel_rfl) (by kernel_rfl) (fun _ _ _ h => h) (Or.inl ⟨by rfl, ?hyh1⟩) HS.out ?resth1
      case hyh1 =>
        intro w hSw
        obtain ⟨hS0, hS1⟩ := hSw
        go_simp
        try with_reducible rfl
      try simp only [Act.put, List.setIfInBounds_toArray, List.set_cons_zero, List.set_cons_succ]
      refine heldT_take (i := 2) (oi := ⟨some 25, .move _, _, _, _, _⟩) (v := ?vh2) rfl (by kernel_rfl) (by decide) (by kernel_rfl) (by kernel_rfl) (fun _ _ _ h => h) (Or.inl ⟨by rfl, ?hyh2⟩) HS.out ?resth2
      case hyh2 =>
        intro w hSw
        obtain ⟨hS0, hS1⟩ := hSw
        go_simp
        try with_reducible rfl
      try simp only [Act.put, List.setIfInBounds_toArray, List.set_cons_zero, List.set_cons_succ]
      refine heldT_take (i := 3) (oi := ⟨some 26, .slice _ _ _ _ _, _, _, _, _⟩) (v := ?vh3) rfl (by kernel_rfl) (by decide) (by kernel_rfl) (by kernel_rfl) (fun _ _ _ h => h) (Or.inl ⟨by rfl, ?hyh3⟩) HS.out ?resth3
      case hyh3 =>
        intro w hSw
        obtain ⟨hS0, hS1⟩ := hSw
        go_simp
        try with_reducible rfl
      try simp only [Act.put, List.setIfInBounds_toArray, List.set_cons_zero, List.set_cons_succ]
      refine heldT_take (i := 4) (oi := ⟨some 27, .load _ _, _, _, _, _⟩) (v := ?vh4) rfl (by kernel_rfl) (by decide) (by kernel_rfl) (by kernel_rfl) (fun _ _ _ h => h) (Or.inl ⟨by rfl, ?hyh4⟩) HS.out ?resth4
      case hyh4 =>
        intro w hSw
        obtain ⟨hS0, hS1⟩ := hSw
        go_simp
        try with_reducible rfl
      try simp only [Act.put, List.setIfInBounds_toArray, List.set_cons_zero, List.set_cons_succ]
      refine heldT_take (i := 6) (oi := ⟨some 29, .fieldAddr _ _ _, _, _, _, _⟩) (v := ?vh6) rfl (by kernel_rfl) (by decide) (by kernel_rfl) (by kernel_rfl) (fun _ _ _ h => h) (Or.inl ⟨by rfl, ?hyh6⟩) HS.out ?resth6
      case hyh6 =>
        intro w hSw
        obtain ⟨hS0, hS1⟩ := hSw
        go_simp
        try with_reducible rfl
      try simp only [Act.put, List.setIfInBounds_toArray, List.set_cons_zero, List.set_cons_succ]
      refine heldT_take (i := 7) (oi := ⟨some 30, .load _ _, _, _, _, _⟩) (v := ?vh7) rfl (by kernel_rfl) (by decide) (by kernel_rfl) (by kernel_rfl) (fun _ _ _ h => h) (Or.inl ⟨by rfl, ?hyh7⟩) HS.out ?resth7
      case hyh7 =>
        intro w hSw
        obtain ⟨hS0, hS1⟩ := hSw
        go_simp
        try with_reducible rfl
      try simp only [Act.put, List.setIfInBounds_toArray, List.set_cons_zero, List.set_cons_succ]
      refine heldT_take (i := 8) (oi := ⟨some 31, .move _, _, _, _, _⟩) (v := ?vh8) rfl (by kernel_rfl) (by decide) (by kernel_rfl) (by kernel_rfl) (fun _ _ _ h => h) (Or.inl ⟨by rfl, ?hyh8⟩) HS.out ?resth8
      case hyh8 =>
        intro w hSw
        obtain ⟨hS0, hS1⟩ := hSw
        go_simp
        try with_reducible rfl
      try simp only [Act.put, List.setIfInBounds_toArray, List.set_cons_zero, List.set_cons_succ]
      refine heldT_take (i := 9) (oi := ⟨some 32, .slice _ _ _ _ _, _, _, _, _⟩) (v := ?vh9) rfl (by kernel_rfl) (by decide) (by kernel_rfl) (by kernel_rfl) (fun _ _ _ h => h) (Or.inl ⟨by rfl, ?hyh9⟩) HS.out ?resth9
      case hyh9 =>
        intro w hSw
        obtain ⟨hS0, hS1⟩ := hSw
        go_simp
        try with_reducible rfl
      try simp only [Act.put, List.setIfInBounds_toArray, List.set_cons_zero, List.set_cons_succ]
      refine heldT_one (i := 5) (o := ⟨some 28, .buildSlice _ _ _, _, _, _, _⟩) rfl (by kernel_rfl) (by decide) (fun K hK => ?_)
      refine step_slice_one _ rfl _ _ rfl 49 _ 34 48 elemW (by decide) L HL34.out rfl ?_
      refine hK.out _ _ (HSO.out _ HW1.out) ?_
      clear hK K
      try simp only [Act.put, List.setIfInBounds_toArray, List.set_cons_zero, List.set_cons_succ]
      refine heldT_one (i := 10) (o := ⟨some 33, .buildSlice _ _ _, _, _, _, _⟩) rfl (by kernel_rfl) (by decide) (fun K hK => ?_)
      go_simp
      refine hK.out _ _ (HSO.out _ HW2.out) ?_
      clear hK K
      try simp only [Act.put, List.setIfInBounds_toArray, List.set_cons_zero, List.set_cons_succ]
      refine heldT_one (i := 11) (o := ⟨some 34, .call _, _, _, _, _⟩) rfl (by kernel_rfl) (by decide) (fun K hK => ?_)
      go_simp
      refine HC.out.mono ?_
      rintro e w6 ⟨A6, c6, rfl, hown, hb, ha⟩
      have hend := HE.out w6 A6 c6 hown hb
      rw [← HP.out] at hend
      have HEnd := Lib.hid hend
      have HB6 := Lib.hid hb
      clear hown hb ha hend
      go_wp2_with fail
      refine hK.out _ _ (HSO.out _ HB6.out) ?_
      clear hK K
      try simp only [Act.put, List.setIfInBounds_toArray, List.set_cons_zero, List.set_cons_succ]
      refine heldT_done (by kernel_rfl) ?_
      obtain ⟨c2', f2'⟩ := HF.out w6 HB6.out
      obtain ⟨k0, k1, k2⟩ := tn_box HEnd.out.t
      clear HS
      go_wp2_with (first
        | ((with_reducible refine wpList_store_var _ (o := ⟨none, .store _ (.tmp 4) _, _, _, _, _⟩) rfl 27 _ _ rfl (w.heap.size + 1 + 1) (tnc ⟨⟨id, bg, putL q ws⟩, A6, c6⟩) (tnc tz) (tn_size _) rfl (tnc_one _) rfl rfl HEnd.out.r ?_); go_loud (intro w7 x7 hg7; have HR := HEnd.out.put x7 hg7))
        | fail)
      obtain ⟨j0, j1, j2⟩ := tn_box x7
      have HQ1 := HQ.out.1
      subst HQ1
      exact bodyPost_ret (v := tval ⟨⟨id, bg, putL (clean y) ws⟩, A6, c6⟩) (by simp [results, Try.results19, go_sem, j0, j1, j2, tnc]) rfl ⟨_, rfl, rfl, HR.1, HR.2⟩
    · skip
      rw [show hit q.b (keys ws) = false by simpa using hh]
      have hpl := pos_le q.b (keys ws)
      rw [List.length_map] at hpl
      have hput : putL q ws = ws.take (pos q.b (keys ws)) ++ [q] ++ ws.drop (pos q.b (keys ws)) := by unfold putL; rw [show hit q.b (keys ws) = false by simpa using hh]; rfl
      generalize hp : pos q.b (keys ws) = p at *
      obtain ⟨c0, c1, c2⟩ := tn_box H5.out.t
      simp only at c2
      go_wp2_with fail
      generalize hn : ws.length = n at *
      have hld : (loadCellsFrom ⟨w.heap.size + 1, 0, none⟩ 0 m #[]).run Try.prog w5.drew = .ok (twc q).toArray w5.drew := (H5.out.on (Below.refl _ _).drew).y.wtAll HQ.out.2 HM.out
      have hlt : w.heap.size < w5.heap.size := by have h1 := H5.out.t; exact h1.lt
      have hinq : ∀ o ∈ ws.take p ++ [q] ++ ws.drop p, WIn o := fun o ho => by
        rcases List.mem_append.1 ho with ho | ho
        · rcases List.mem_append.1 ho with ho | ho
          · exact HI.out.1 o (List.mem_of_mem_take ho)
          · rw [List.mem_singleton.1 ho]; exact HQ.out.2
        · exact HI.out.1 o (List.mem_of_mem_drop ho)
      have hr5 := (HI.out.2.2.1.below H5.out.below).more H5.out.below.size
      have hl1 : (ws.take p).length = p := by simp; omega
      have hl3 : (ws.drop p).length = n - p := by simp [hn]
      rcases HI.out.2.2.2 with ⟨rfl, h0, rfl⟩ | ⟨ad, rfl, hnc⟩
      · have h0 : n = 0 := h0
        obtain rfl : p = 0 := by omega
        subst h0
        have HC := Lib.hid (put_call w5 none none 0 0 0 0 1 (ws.take 0) (ws.drop 0) q hl1 hl3 (by omega) (by omega) (by omega) hinq (tws_front 0 hr5) (by rw [List.drop_zero]; exact hr5))
        have HE := Lib.hid fun w6 A6 c6 hown hb => H5.out.ends (w6 := w6) (A6 := A6) (c6 := c6) (l := (ws.take 0) ++ [q] ++ (ws.drop 0)) (n := 1) (by have a1 := hl1; have a3 := hl3; rw [List.length_append, List.length_append, List.length_singleton]; omega) hown hb
        have HF := Lib.hid fun w6 (hb : Below w5.heap.size w5 w6) => (⟨(tn_box (H5.out.on hb).t).2.2.trans (by rw [← hn]), (H5.out.on hb).t.frozen 2⟩ : w6.cell? ⟨w.heap.size, 2, none⟩ = some (.slice none 0 0) ∧ w6.frozen? ⟨w.heap.size, 2, none⟩ = false)
        have HY := Lib.hid fun w6 (hb : Below w5.heap.size w5 w6) => (H5.out.on hb).y.wtAll HQ.out.2 HM.out
        have HL34 := Lib.hid (twc_len HQ.out.2)
        have HW1 : Hid (Below w5.heap.size w5 (w5.drew.alloc (.cells (twc q).toArray 49))) := Lib.hid ((Below.refl _ _).drew.alloc (Nat.le_refl _) _)
        have HW2 : Hid (Below w5.heap.size w5 ((w5.alloc (.cells (twc q).toArray 49)).alloc (.cells #[.slice none 0 0, .slice (some ⟨w5.heap.size, 0, none⟩) 1 1, .slice none 0 0] 25)).drew) := Lib.hid ((((Below.refl _ _).alloc (Nat.le_refl _) _).alloc (by simp) _).drew)
        have HP := Lib.hid (show putL q ws = (ws.take 0) ++ [q] ++ (ws.drop 0) from hput)
        generalize twc q = L at *
        clear hinq hr5 hl1 hl3 hput c0 c1
        have hS : ∀ w', Below w5.heap.size w5 w' → w'.cell? ⟨w.heap.size, 2, none⟩ = some (.slice none 0 0) ∧ (loadCellsFrom ⟨w.heap.size + 1, 0, none⟩ 0 m #[]).run Try.prog w' = .ok L.toArray w' := fun w' hb => ⟨(HF.out w' hb).1, HY.out w' hb⟩
        have HSO := Lib.hid hS
        have HS := Lib.hid (hS w5.drew (Below.refl _ _).drew)
        clear hS hld c2
        refine wp_region_heldT (fun w' => w'.cell? ⟨w.heap.size, 2, none⟩ = some (.slice none 0 0) ∧ (loadCellsFrom ⟨w.heap.size + 1, 0, none⟩ 0 m #[]).run Try.prog w' = .ok L.toArray w') 12 (by kernel_rfl) (by kernel_rfl) ?_
        refine heldT_take (i := 0) (oi := ⟨some 23, .fieldAddr _ _ _, _, _, _, _⟩) (v := ?vi0) rfl (by kernel_rfl) (by decide) (by kernel_rfl) (by kernel_rfl) (fun _ _ _ h => h) (Or.inl ⟨by rfl, ?hyi0⟩) HS.out ?resti0
        case hyi0 =>
          intro w hSw
          obtain ⟨hS0, hS1⟩ := hSw
          go_simp
          try with_reducible rfl
        try simp only [Act.put, List.setIfInBounds_toArray, List.set_cons_zero, List.set_cons_succ]
        refine heldT_take (i := 1) (oi := ⟨some 24, .load _ _, _, _, _, _⟩) (v := ?vi1) rfl (by kernel_rfl) (by decide) (by kernel_rfl) (by kernel_rfl) (fun _ _ _ h => h) (Or.inl ⟨by rfl, ?hyi1⟩) HS.out ?resti1
        case hyi1 =>
          intro w hSw
          obtain ⟨hS0, hS1⟩ := hSw
          go_simp
          try with_reducible rfl
        try simp only [Act.put, List.setIfInBounds_toArray, List.set_cons_zero, List.set_cons_succ]
        refine heldT_take (i := 2) (oi := ⟨some 25, .move _, _, _, _, _⟩) (v := ?vi2) rfl (by kernel_rfl) (by decide) (by kernel_rfl) (by kernel_rfl) (fun _ _ _ h => h) (Or.inl ⟨by rfl, ?hyi2⟩) HS.out ?resti2
        case hyi2 =>
          intro w hSw
          obtain ⟨hS0, hS1⟩ := hSw
          go_simp
          try with_reducible rfl
        try simp only [Act.put, List.setIfInBounds_toArray, List.set_cons_zero, List.set_cons_succ]
        refine heldT_take (i := 3) (oi := ⟨some 26, .slice _ _ _ _ _, _, _, _, _⟩) (v := ?vi3) rfl (by kernel_rfl) (by decide) (by kernel_rfl) (by kernel_rfl) (fun _ _ _ h => h) (Or.inl ⟨by rfl, ?hyi3⟩) HS.out ?resti3
        case hyi3 =>
          intro w hSw
          obtain ⟨hS0, hS1⟩ := hSw
          go_simp
          try with_reducible rfl
        try simp only [Act.put, List.setIfInBounds_toArray, List.set_cons_zero, List.set_cons_succ]
        refine heldT_take (i := 4) (oi := ⟨some 27, .load _ _, _, _, _, _⟩) (v := ?vi4) rfl (by kernel_rfl) (by decide) (by kernel_rfl) (by kernel_rfl) (fun _ _ _ h => h) (Or.inl ⟨by rfl, ?hyi4⟩) HS.out ?resti4
        case hyi4 =>
          intro w hSw
          obtain ⟨hS0, hS1⟩ := hSw
          go_simp
          try with_reducible rfl
        try simp only [Act.put, List.setIfInBounds_toArray, List.set_cons_zero, List.set_cons_succ]
        refine heldT_take (i := 6) (oi := ⟨some 29, .fieldAddr _ _ _, _, _, _, _⟩) (v := ?vi6) rfl (by kernel_rfl) (by decide) (by kernel_rfl) (by kernel_rfl) (fun _ _ _ h => h) (Or.inl ⟨by rfl, ?hyi6⟩) HS.out ?resti6
        case hyi6 =>
          intro w hSw
          obtain ⟨hS0, hS1⟩ := hSw
          go_simp
          try with_reducible rfl
        try simp only [Act.put, List.setIfInBounds_toArray, List.set_cons_zero, List.set_cons_succ]
        refine heldT_take (i := 7) (oi := ⟨some 30, .load _ _, _, _, _, _⟩) (v := ?vi7) rfl (by kernel_rfl) (by decide) (by kernel_rfl) (by kernel_rfl) (fun _ _ _ h => h) (Or.inl ⟨by rfl, ?hyi7⟩) HS.out ?resti7
        case hyi7 =>
          intro w hSw
          obtain ⟨hS0, hS1⟩ := hSw
          go_simp
          try with_reducible rfl
        try simp only [Act.put, List.setIfInBounds_toArray, List.set_cons_zero, List.set_cons_succ]
        refine heldT_take (i := 8) (oi := ⟨some 31, .move _, _, _, _, _⟩) (v := ?vi8) rfl (by kernel_rfl) (by decide) (by kernel_rfl) (by kernel_rfl) (fun _ _ _ h => h) (Or.inl ⟨by rfl, ?hyi8⟩) HS.out ?resti8
        case hyi8 =>
          intro w hSw
          obtain ⟨hS0, hS1⟩ := hSw
          go_simp
          try with_reducible rfl
        try simp only [Act.put, List.setIfInBounds_toArray, List.set_cons_zero, List.set_cons_succ]
        refine heldT_take (i := 9) (oi := ⟨some 32, .slice _ _ _ _ _, _, _, _, _⟩) (v := ?vi9) rfl (by kernel_rfl) (by decide) (by kernel_rfl) (by kernel_rfl) (fun _ _ _ h => h) (Or.inl ⟨by rfl, ?hyi9⟩) HS.out ?resti9
        case hyi9 =>
          intro w hSw
          obtain ⟨hS0, hS1⟩ := hSw
          go_simp
          try with_reducible rfl
        try simp only [Act.put, List.setIfInBounds_toArray, List.set_cons_zero, List.set_cons_succ]
        refine heldT_one (i := 5) (o := ⟨some 28, .buildSlice _ _ _, _, _, _, _⟩) rfl (by kernel_rfl) (by decide) (fun K hK => ?_)
        refine step_slice_one _ rfl _ _ rfl 49 _ 34 48 elemW (by decide) L HL34.out rfl ?_
        refine hK.out _ _ (HSO.out _ HW1.out) ?_
        clear hK K
        try simp only [Act.put, List.setIfInBounds_toArray, List.set_cons_zero, List.set_cons_succ]
        refine heldT_one (i := 10) (o := ⟨some 33, .buildSlice _ _ _, _, _, _, _⟩) rfl (by kernel_rfl) (by decide) (fun K hK => ?_)
        go_simp
        refine hK.out _ _ (HSO.out _ HW2.out) ?_
        clear hK K
        try simp only [Act.put, List.setIfInBounds_toArray, List.set_cons_zero, List.set_cons_succ]
        refine heldT_one (i := 11) (o := ⟨some 34, .call _, _, _, _, _⟩) rfl (by kernel_rfl) (by decide) (fun K hK => ?_)
        go_simp
        refine HC.out.mono ?_
        rintro e w6 ⟨A6, c6, rfl, hown, hb, ha⟩
        have hend := HE.out w6 A6 c6 hown hb
        rw [← HP.out] at hend
        have HEnd := Lib.hid hend
        have HB6 := Lib.hid hb
        clear hown hb ha hend
        go_wp2_with fail
        refine hK.out _ _ (HSO.out _ HB6.out) ?_
        clear hK K
        try simp only [Act.put, List.setIfInBounds_toArray, List.set_cons_zero, List.set_cons_succ]
        refine heldT_done (by kernel_rfl) ?_
        obtain ⟨c2', f2'⟩ := HF.out w6 HB6.out
        obtain ⟨k0, k1, k2⟩ := tn_box HEnd.out.t
        clear HS
        go_wp2_with (first
          | ((with_reducible refine wpList_store_var _ (o := ⟨none, .store _ (.tmp 4) _, _, _, _, _⟩) rfl 27 _ _ rfl (w.heap.size + 1 + 1) (tnc ⟨⟨id, bg, putL q ws⟩, A6, c6⟩) (tnc tz) (tn_size _) rfl (tnc_one _) rfl rfl HEnd.out.r ?_); go_loud (intro w7 x7 hg7; have HR := HEnd.out.put x7 hg7))
          | fail)
        obtain ⟨j0, j1, j2⟩ := tn_box x7
        have HQ1 := HQ.out.1
        subst HQ1
        exact bodyPost_ret (v := tval ⟨⟨id, bg, putL (clean y) ws⟩, A6, c6⟩) (by simp [results, Try.results19, go_sem, j0, j1, j2, tnc]) rfl ⟨_, rfl, rfl, HR.1, HR.2⟩
      have hnc : n ≤ cap := hnc
      by_cases hcr : cap = p
      · obtain rfl : n = p := by omega
        subst hcr
        have hl3 : (ws.drop cap).length = 0 := by omega
        have HC := Lib.hid (put_call w5 (some ad) (some ad) cap cap 0 0 (cap + 1) (ws.take cap) (ws.drop cap) q hl1 hl3 (by omega) (by omega) (by omega) hinq (tws_front cap hr5) (by rw [List.drop_of_length_le (by omega)]; exact Rd.empty))
        have HE := Lib.hid fun w6 A6 c6 hown hb => H5.out.ends (w6 := w6) (A6 := A6) (c6 := c6) (l := (ws.take cap) ++ [q] ++ (ws.drop cap)) (n := (cap + 1)) (by have a1 := hl1; have a3 := hl3; rw [List.length_append, List.length_append, List.length_singleton]; omega) hown hb
        have HF := Lib.hid fun w6 (hb : Below w5.heap.size w5 w6) => (⟨(tn_box (H5.out.on hb).t).2.2.trans (by rw [← hn]), (H5.out.on hb).t.frozen 2⟩ : w6.cell? ⟨w.heap.size, 2, none⟩ = some (.slice (some ad) cap cap) ∧ w6.frozen? ⟨w.heap.size, 2, none⟩ = false)
        have HY := Lib.hid fun w6 (hb : Below w5.heap.size w5 w6) => (H5.out.on hb).y.wtAll HQ.out.2 HM.out
        have HL34 := Lib.hid (twc_len HQ.out.2)
        have HW1 : Hid (Below w5.heap.size w5 (w5.drew.alloc (.cells (twc q).toArray 49))) := Lib.hid ((Below.refl _ _).drew.alloc (Nat.le_refl _) _)
        have HW2 : Hid (Below w5.heap.size w5 ((w5.alloc (.cells (twc q).toArray 49)).alloc (.cells #[.slice (some ad) cap cap, .slice (some ⟨w5.heap.size, 0, none⟩) 1 1, .slice (some ad) 0 0] 25)).drew) := Lib.hid ((((Below.refl _ _).alloc (Nat.le_refl _) _).alloc (by simp) _).drew)
        have HP := Lib.hid (show putL q ws = (ws.take cap) ++ [q] ++ (ws.drop cap) from hput)
        generalize twc q = L at *
        clear hinq hr5 hl1 hl3 hput c0 c1
        have hS : ∀ w', Below w5.heap.size w5 w' → w'.cell? ⟨w.heap.size, 2, none⟩ = some (.slice (some ad) cap cap) ∧ (loadCellsFrom ⟨w.heap.size + 1, 0, none⟩ 0 m #[]).run Try.prog w' = .ok L.toArray w' := fun w' hb => ⟨(HF.out w' hb).1, HY.out w' hb⟩
        have HSO := Lib.hid hS
        have HS := Lib.hid (hS w5.drew (Below.refl _ _).drew)
        clear hS hld c2
        refine wp_region_heldT (fun w' => w'.cell? ⟨w.heap.size, 2, none⟩ = some (.slice (some ad) cap cap) ∧ (loadCellsFrom ⟨w.heap.size + 1, 0, none⟩ 0 m #[]).run Try.prog w' = .ok L.toArray w') 12 (by kernel_rfl) (by kernel_rfl) ?_
        refine heldT_take (i := 0) (oi := ⟨some 23, .fieldAddr _ _ _, _, _, _, _⟩) (v := ?vj0) rfl (by kernel_rfl) (by decide) (by kernel_rfl) (by kernel_rfl) (fun _ _ _ h => h) (Or.inl ⟨by rfl, ?hyj0⟩) HS.out ?restj0
        case hyj0 =>
          intro w hSw
          obtain ⟨hS0, hS1⟩ := hSw
          go_simp
          try with_reducible rfl
        try simp only [Act.put, List.setIfInBounds_toArray, List.set_cons_zero, List.set_cons_succ]
        refine heldT_take (i := 1) (oi := ⟨some 24, .load _ _, _, _, _, _⟩) (v := ?vj1) rfl (by kernel_rfl) (by decide) (by kernel_rfl) (by kernel_rfl) (fun _ _ _ h => h) (Or.inl ⟨by rfl, ?hyj1⟩) HS.out ?restj1
        case hyj1 =>
          intro w hSw
          obtain ⟨hS0, hS1⟩ := hSw
          go_simp
          try with_reducible rfl
        try simp only [Act.put, List.setIfInBounds_toArray, List.set_cons_zero, List.set_cons_succ]
        refine heldT_take (i := 2) (oi := ⟨some 25, .move _, _, _, _, _⟩) (v := ?vj2) rfl (by kernel_rfl) (by decide) (by kernel_rfl) (by kernel_rfl) (fun _ _ _ h => h) (Or.inl ⟨by rfl, ?hyj2⟩) HS.out ?restj2
        case hyj2 =>
          intro w hSw
          obtain ⟨hS0, hS1⟩ := hSw
          go_simp
          try with_reducible rfl
        try simp only [Act.put, List.setIfInBounds_toArray, List.set_cons_zero, List.set_cons_succ]
        refine heldT_take (i := 3) (oi := ⟨some 26, .slice _ _ _ _ _, _, _, _, _⟩) (v := ?vj3) rfl (by kernel_rfl) (by decide) (by kernel_rfl) (by kernel_rfl) (fun _ _ _ h => h) (Or.inl ⟨by rfl, ?hyj3⟩) HS.out ?restj3
        case hyj3 =>
          intro w hSw
          obtain ⟨hS0, hS1⟩ := hSw
          go_simp
          try with_reducible rfl
        try simp only [Act.put, List.setIfInBounds_toArray, List.set_cons_zero, List.set_cons_succ]
        refine heldT_take (i := 4) (oi := ⟨some 27, .load _ _, _, _, _, _⟩) (v := ?vj4) rfl (by kernel_rfl) (by decide) (by kernel_rfl) (by kernel_rfl) (fun _ _ _ h => h) (Or.inl ⟨by rfl, ?hyj4⟩) HS.out ?restj4
        case hyj4 =>
          intro w hSw
          obtain ⟨hS0, hS1⟩ := hSw
          go_simp
          try with_reducible rfl
        try simp only [Act.put, List.setIfInBounds_toArray, List.set_cons_zero, List.set_cons_succ]
        refine heldT_take (i := 6) (oi := ⟨some 29, .fieldAddr _ _ _, _, _, _, _⟩) (v := ?vj6) rfl (by kernel_rfl) (by decide) (by kernel_rfl) (by kernel_rfl) (fun _ _ _ h => h) (Or.inl ⟨by rfl, ?hyj6⟩) HS.out ?restj6
        case hyj6 =>
          intro w hSw
          obtain ⟨hS0, hS1⟩ := hSw
          go_simp
          try with_reducible rfl
        try simp only [Act.put, List.setIfInBounds_toArray, List.set_cons_zero, List.set_cons_succ]
        refine heldT_take (i := 7) (oi := ⟨some 30, .load _ _, _, _, _, _⟩) (v := ?vj7) rfl (by kernel_rfl) (by decide) (by kernel_rfl) (by kernel_rfl) (fun _ _ _ h => h) (Or.inl ⟨by rfl, ?hyj7⟩) HS.out ?restj7
        case hyj7 =>
          intro w hSw
          obtain ⟨hS0, hS1⟩ := hSw
          go_simp
          try with_reducible rfl
        try simp only [Act.put, List.setIfInBounds_toArray, List.set_cons_zero, List.set_cons_succ]
        refine heldT_take (i := 8) (oi := ⟨some 31, .move _, _, _, _, _⟩) (v := ?vj8) rfl (by kernel_rfl) (by decide) (by kernel_rfl) (by kernel_rfl) (fun _ _ _ h => h) (Or.inl ⟨by rfl, ?hyj8⟩) HS.out ?restj8
        case hyj8 =>
          intro w hSw
          obtain ⟨hS0, hS1⟩ := hSw
          go_simp
          try with_reducible rfl
        try simp only [Act.put, List.setIfInBounds_toArray, List.set_cons_zero, List.set_cons_succ]
        refine heldT_take (i := 9) (oi := ⟨some 32, .slice _ _ _ _ _, _, _, _, _⟩) (v := ?vj9) rfl (by kernel_rfl) (by decide) (by kernel_rfl) (by kernel_rfl) (fun _ _ _ h => h) (Or.inl ⟨by rfl, ?hyj9⟩) HS.out ?restj9
        case hyj9 =>
          intro w hSw
          obtain ⟨hS0, hS1⟩ := hSw
          go_simp
          try with_reducible rfl
        try simp only [Act.put, List.setIfInBounds_toArray, List.set_cons_zero, List.set_cons_succ]
        refine heldT_one (i := 5) (o := ⟨some 28, .buildSlice _ _ _, _, _, _, _⟩) rfl (by kernel_rfl) (by decide) (fun K hK => ?_)
        refine step_slice_one _ rfl _ _ rfl 49 _ 34 48 elemW (by decide) L HL34.out rfl ?_
        refine hK.out _ _ (HSO.out _ HW1.out) ?_
        clear hK K
        try simp only [Act.put, List.setIfInBounds_toArray, List.set_cons_zero, List.set_cons_succ]
        refine heldT_one (i := 10) (o := ⟨some 33, .buildSlice _ _ _, _, _, _, _⟩) rfl (by kernel_rfl) (by decide) (fun K hK => ?_)
        go_simp
        refine hK.out _ _ (HSO.out _ HW2.out) ?_
        clear hK K
        try simp only [Act.put, List.setIfInBounds_toArray, List.set_cons_zero, List.set_cons_succ]
        refine heldT_one (i := 11) (o := ⟨some 34, .call _, _, _, _, _⟩) rfl (by kernel_rfl) (by decide) (fun K hK => ?_)
        go_simp
        refine HC.out.mono ?_
        rintro e w6 ⟨A6, c6, rfl, hown, hb, ha⟩
        have hend := HE.out w6 A6 c6 hown hb
        rw [← HP.out] at hend
        have HEnd := Lib.hid hend
        have HB6 := Lib.hid hb
        clear hown hb ha hend
        go_wp2_with fail
        refine hK.out _ _ (HSO.out _ HB6.out) ?_
        clear hK K
        try simp only [Act.put, List.setIfInBounds_toArray, List.set_cons_zero, List.set_cons_succ]
        refine heldT_done (by kernel_rfl) ?_
        obtain ⟨c2', f2'⟩ := HF.out w6 HB6.out
        obtain ⟨k0, k1, k2⟩ := tn_box HEnd.out.t
        clear HS
        go_wp2_with (first
          | ((with_reducible refine wpList_store_var _ (o := ⟨none, .store _ (.tmp 4) _, _, _, _, _⟩) rfl 27 _ _ rfl (w.heap.size + 1 + 1) (tnc ⟨⟨id, bg, putL q ws⟩, A6, c6⟩) (tnc tz) (tn_size _) rfl (tnc_one _) rfl rfl HEnd.out.r ?_); go_loud (intro w7 x7 hg7; have HR := HEnd.out.put x7 hg7))
          | fail)
        obtain ⟨j0, j1, j2⟩ := tn_box x7
        have HQ1 := HQ.out.1
        subst HQ1
        exact bodyPost_ret (v := tval ⟨⟨id, bg, putL (clean y) ws⟩, A6, c6⟩) (by simp [results, Try.results19, go_sem, j0, j1, j2, tnc]) rfl ⟨_, rfl, rfl, HR.1, HR.2⟩
      have hpi : (p : Int) ≤ (n : Int) := by omega
      have hpc : (p : Int) ≤ (cap : Int) := by omega
      have HC := Lib.hid (put_call w5 (some ad) (some (ad.add (p * m))) p cap (n - p) (cap - p) (n + 1) (ws.take p) (ws.drop p) q hl1 hl3 (by omega) (by omega) (by omega) hinq (tws_front p hr5) (by rw [tws_drop _ _ HI.out.1, HM.out]; exact hr5.tail))
      have HE := Lib.hid fun w6 A6 c6 hown hb => H5.out.ends (w6 := w6) (A6 := A6) (c6 := c6) (l := (ws.take p) ++ [q] ++ (ws.drop p)) (n := (n + 1)) (by have a1 := hl1; have a3 := hl3; rw [List.length_append, List.length_append, List.length_singleton]; omega) hown hb
      have HF := Lib.hid fun w6 (hb : Below w5.heap.size w5 w6) => (⟨(tn_box (H5.out.on hb).t).2.2.trans (by rw [← hn]), (H5.out.on hb).t.frozen 2⟩ : w6.cell? ⟨w.heap.size, 2, none⟩ = some (.slice (some ad) n cap) ∧ w6.frozen? ⟨w.heap.size, 2, none⟩ = false)
      have HY := Lib.hid fun w6 (hb : Below w5.heap.size w5 w6) => (H5.out.on hb).y.wtAll HQ.out.2 HM.out
      have HL34 := Lib.hid (twc_len HQ.out.2)
      have HW1 : Hid (Below w5.heap.size w5 (w5.drew.alloc (.cells (twc q).toArray 49))) := Lib.hid ((Below.refl _ _).drew.alloc (Nat.le_refl _) _)
      have HW2 : Hid (Below w5.heap.size w5 ((w5.alloc (.cells (twc q).toArray 49)).alloc (.cells #[.slice (some ad) p cap, .slice (some ⟨w5.heap.size, 0, none⟩) 1 1, .slice (some (ad.add (p * m))) (n - p) (cap - p)] 25)).drew) := Lib.hid ((((Below.refl _ _).alloc (Nat.le_refl _) _).alloc (by simp) _).drew)
      have HP := Lib.hid (show putL q ws = (ws.take p) ++ [q] ++ (ws.drop p) from hput)
      generalize twc q = L at *
      clear hinq hr5 hl1 hl3 hput c0 c1
      have hS : ∀ w', Below w5.heap.size w5 w' → w'.cell? ⟨w.heap.size, 2, none⟩ = some (.slice (some ad) n cap) ∧ (loadCellsFrom ⟨w.heap.size + 1, 0, none⟩ 0 m #[]).run Try.prog w' = .ok L.toArray w' := fun w' hb => ⟨(HF.out w' hb).1, HY.out w' hb⟩
      have HSO := Lib.hid hS
      have HS := Lib.hid (hS w5.drew (Below.refl _ _).drew)
      clear hS hld c2
      refine wp_region_heldT (fun w' => w'.cell? ⟨w.heap.size, 2, none⟩ = some (.slice (some ad) n cap) ∧ (loadCellsFrom ⟨w.heap.size + 1, 0, none⟩ 0 m #[]).run Try.prog w' = .ok L.toArray w') 12 (by kernel_rfl) (by kernel_rfl) ?_
      refine heldT_take (i := 0) (oi := ⟨some 23, .fieldAddr _ _ _, _, _, _, _⟩) (v := ?vk0) rfl (by kernel_rfl) (by decide) (by kernel_rfl) (by kernel_rfl) (fun _ _ _ h => h) (Or.inl ⟨by rfl, ?hyk0⟩) HS.out ?restk0
      case hyk0 =>
        intro w hSw
        obtain ⟨hS0, hS1⟩ := hSw
        go_simp
        try with_reducible rfl
      try simp only [Act.put, List.setIfInBounds_toArray, List.set_cons_zero, List.set_cons_succ]
      refine heldT_take (i := 1) (oi := ⟨some 24, .load _ _, _, _, _, _⟩) (v := ?vk1) rfl (by kernel_rfl) (by decide) (by kernel_rfl) (by kernel_rfl) (fun _ _ _ h => h) (Or.inl ⟨by rfl, ?hyk1⟩) HS.out ?restk1
      case hyk1 =>
        intro w hSw
        obtain ⟨hS0, hS1⟩ := hSw
        go_simp
        try with_reducible rfl
      try simp only [Act.put, List.setIfInBounds_toArray, List.set_cons_zero, List.set_cons_succ]
      refine heldT_take (i := 2) (oi := ⟨some 25, .move _, _, _, _, _⟩) (v := ?vk2) rfl (by kernel_rfl) (by decide) (by kernel_rfl) (by kernel_rfl) (fun _ _ _ h => h) (Or.inl ⟨by rfl, ?hyk2⟩) HS.out ?restk2
      case hyk2 =>
        intro w hSw
        obtain ⟨hS0, hS1⟩ := hSw
        go_simp
        try with_reducible rfl
      try simp only [Act.put, List.setIfInBounds_toArray, List.set_cons_zero, List.set_cons_succ]
      refine heldT_take (i := 3) (oi := ⟨some 26, .slice _ _ _ _ _, _, _, _, _⟩) (v := ?vk3) rfl (by kernel_rfl) (by decide) (by kernel_rfl) (by kernel_rfl) (fun _ _ _ h => h) (Or.inl ⟨by rfl, ?hyk3⟩) HS.out ?restk3
      case hyk3 =>
        intro w hSw
        obtain ⟨hS0, hS1⟩ := hSw
        go_simp
        try with_reducible rfl
      try simp only [Act.put, List.setIfInBounds_toArray, List.set_cons_zero, List.set_cons_succ]
      refine heldT_take (i := 4) (oi := ⟨some 27, .load _ _, _, _, _, _⟩) (v := ?vk4) rfl (by kernel_rfl) (by decide) (by kernel_rfl) (by kernel_rfl) (fun _ _ _ h => h) (Or.inl ⟨by rfl, ?hyk4⟩) HS.out ?restk4
      case hyk4 =>
        intro w hSw
        obtain ⟨hS0, hS1⟩ := hSw
        go_simp
        try with_reducible rfl
      try simp only [Act.put, List.setIfInBounds_toArray, List.set_cons_zero, List.set_cons_succ]
      refine heldT_take (i := 6) (oi := ⟨some 29, .fieldAddr _ _ _, _, _, _, _⟩) (v := ?vk6) rfl (by kernel_rfl) (by decide) (by kernel_rfl) (by kernel_rfl) (fun _ _ _ h => h) (Or.inl ⟨by rfl, ?hyk6⟩) HS.out ?restk6
      case hyk6 =>
        intro w hSw
        obtain ⟨hS0, hS1⟩ := hSw
        go_simp
        try with_reducible rfl
      try simp only [Act.put, List.setIfInBounds_toArray, List.set_cons_zero, List.set_cons_succ]
      refine heldT_take (i := 7) (oi := ⟨some 30, .load _ _, _, _, _, _⟩) (v := ?vk7) rfl (by kernel_rfl) (by decide) (by kernel_rfl) (by kernel_rfl) (fun _ _ _ h => h) (Or.inl ⟨by rfl, ?hyk7⟩) HS.out ?restk7
      case hyk7 =>
        intro w hSw
        obtain ⟨hS0, hS1⟩ := hSw
        go_simp
        try with_reducible rfl
      try simp only [Act.put, List.setIfInBounds_toArray, List.set_cons_zero, List.set_cons_succ]
      refine heldT_take (i := 8) (oi := ⟨some 31, .move _, _, _, _, _⟩) (v := ?vk8) rfl (by kernel_rfl) (by decide) (by kernel_rfl) (by kernel_rfl) (fun _ _ _ h => h) (Or.inl ⟨by rfl, ?hyk8⟩) HS.out ?restk8
      case hyk8 =>
        intro w hSw
        obtain ⟨hS0, hS1⟩ := hSw
        go_simp
        try with_reducible rfl
      try simp only [Act.put, List.setIfInBounds_toArray, List.set_cons_zero, List.set_cons_succ]
      refine heldT_take (i := 9) (oi := ⟨some 32, .slice _ _ _ _ _, _, _, _, _⟩) (v := ?vk9) rfl (by kernel_rfl) (by decide) (by kernel_rfl) (by kernel_rfl) (fun _ _ _ h => h) (Or.inl ⟨by rfl, ?hyk9⟩) HS.out ?restk9
      case hyk9 =>
        intro w hSw
        obtain ⟨hS0, hS1⟩ := hSw
        go_simp
        try with_reducible rfl
      try simp only [Act.put, List.setIfInBounds_toArray, List.set_cons_zero, List.set_cons_succ]
      refine heldT_one (i := 5) (o := ⟨some 28, .buildSlice _ _ _, _, _, _, _⟩) rfl (by kernel_rfl) (by decide) (fun K hK => ?_)
      refine step_slice_one _ rfl _ _ rfl 49 _ 34 48 elemW (by decide) L HL34.out rfl ?_
      refine hK.out _ _ (HSO.out _ HW1.out) ?_
      clear hK K
      try simp only [Act.put, List.setIfInBounds_toArray, List.set_cons_zero, List.set_cons_succ]
      refine heldT_one (i := 10) (o := ⟨some 33, .buildSlice _ _ _, _, _, _, _⟩) rfl (by kernel_rfl) (by decide) (fun K hK => ?_)
      go_simp
      refine hK.out _ _ (HSO.out _ HW2.out) ?_
      clear hK K
      try simp only [Act.put, List.setIfInBounds_toArray, List.set_cons_zero, List.set_cons_succ]
      refine heldT_one (i := 11) (o := ⟨some 34, .call _, _, _, _, _⟩) rfl (by kernel_rfl) (by decide) (fun K hK => ?_)
      go_simp
      refine HC.out.mono ?_
      rintro e w6 ⟨A6, c6, rfl, hown, hb, ha⟩
      have hend := HE.out w6 A6 c6 hown hb
      rw [← HP.out] at hend
      have HEnd := Lib.hid hend
      have HB6 := Lib.hid hb
      clear hown hb ha hend
      go_wp2_with fail
      refine hK.out _ _ (HSO.out _ HB6.out) ?_
      clear hK K
      try simp only [Act.put, List.setIfInBounds_toArray, List.set_cons_zero, List.set_cons_succ]
      refine heldT_done (by kernel_rfl) ?_
      obtain ⟨c2', f2'⟩ := HF.out w6 HB6.out
      obtain ⟨k0, k1, k2⟩ := tn_box HEnd.out.t
      clear HS
      go_wp2_with (first
        | ((with_reducible refine wpList_store_var _ (o := ⟨none, .store _ (.tmp 4) _, _, _, _, _⟩) rfl 27 _ _ rfl (w.heap.size + 1 + 1) (tnc ⟨⟨id, bg, putL q ws⟩, A6, c6⟩) (tnc tz) (tn_size _) rfl (tnc_one _) rfl rfl HEnd.out.r ?_); go_loud (intro w7 x7 hg7; have HR := HEnd.out.put x7 hg7))
        | fail)
      obtain ⟨j0, j1, j2⟩ := tn_box x7
      have HQ1 := HQ.out.1
      subst HQ1
      exact bodyPost_ret (v := tval ⟨⟨id, bg, putL (clean y) ws⟩, A6, c6⟩) (by simp [results, Try.results19, go_sem, j0, j1, j2, tnc]) rfl ⟨_, rfl, rfl, HR.1, HR.2⟩

end Go.Proofs.Ytiljjgohmjimdaa

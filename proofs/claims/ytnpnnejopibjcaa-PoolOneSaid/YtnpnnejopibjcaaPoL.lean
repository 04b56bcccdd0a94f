/-
  Package pool: Open, walked.
-/
import Derived.Test.YtnpnnejopibjcaaPoK
namespace Go.Proofs.Ytnpnnejopibjcaa
open Go.RowKit Geom Leaf Pol Zone
set_option linter.unusedVariables false

theorem One.res (w : World) (conv soft seq size opn : Int) :
    One w ((w.alloc (.cells #[.int .i64 conv, .int .i64 soft, .int .i64 seq, .int .i64 size, .int .i64 opn] 23)).alloc (.cells #[.slice none 0 0, .int .i64 0, .int .i64 0, .int .i64 0] 31)) conv soft seq size opn ∧
    Box ((w.alloc (.cells #[.int .i64 conv, .int .i64 soft, .int .i64 seq, .int .i64 size, .int .i64 opn] 23)).alloc (.cells #[.slice none 0 0, .int .i64 0, .int .i64 0, .int .i64 0] 31)) (w.heap.size + 1) 31 (plcs none 0 0 0 0 0) := by
  refine ⟨(One.new ..).alloc _, ?_⟩
  have h := Box.new (w.alloc (.cells #[.int .i64 conv, .int .i64 soft, .int .i64 seq, .int .i64 size, .int .i64 opn] 23)) 31 (plcs none 0 0 0 0 0)
  rwa [show (w.alloc (.cells #[.int .i64 conv, .int .i64 soft, .int .i64 seq, .int .i64 size, .int .i64 opn] 23)).heap.size = w.heap.size + 1 by simp] at h
theorem OpSt.made {w w0 w1 : World} {conv soft seq size opn : Int} {n : Nat} (G : One w w0 conv soft seq size opn) (R : Box w0 (w.heap.size + 1) 31 (plcs none 0 0 0 0 0))
    (ho : w1.ownsRow w0.heap.size 3 1 (.slice (some ⟨w0.heap.size, 0, none⟩) n n) n (List.replicate n (.int .i64 0))) (hb : Below w0.heap.size w0 w1) (hn : 0 < n) :
    OpSt w w1 w0.heap.size w0.heap.size conv soft seq size opn n (List.replicate n 0) (.slice none 0 0) 0 [] := by
  obtain ⟨g, hA, _, hl⟩ := own_at ho hn
  injection hA with hA
  injection hA with hA
  exact ⟨G.below hb, R.on hb, by rw [show is (List.replicate n 0) = List.replicate n (.int .i64 0) by simp [is]]; exact ho, World.ownsRow_nil _ _ _ _, R.lt, Nat.le_refl _, by rw [hA]; exact hl⟩
theorem OpSt.drew {w w' : World} {base gp : Nat} {conv soft seq size opn : Int} {n : Nat} {Y : List Int} {v : Value} {m : Nat} {bs : List Int} (h : OpSt w w' base gp conv soft seq size opn n Y v m bs) : OpSt w w'.drew base gp conv soft seq size opn n Y v m bs :=
  ⟨h.gp1.drew, h.rs, h.own, h.beg, h.hb, h.hg⟩
theorem splice_heads {g n : Nat} {bs : List Int} (h : bs.length ≤ 3) : splice (plcs (some ⟨g, 0, none⟩) n n 0 0 0) 1 (is bs) = plcs (some ⟨g, 0, none⟩) n n (bs.getD 0 0) (bs.getD 1 0) (bs.getD 2 0) := by
  rcases three_cases h with rfl | ⟨x, rfl⟩ | ⟨x, y, rfl⟩ | ⟨x, y, t, rfl⟩ <;> rfl

set_option maxRecDepth 100000 in
set_option maxHeartbeats 8000000 in
theorem popen_any (conv soft seq size opn : Int) (A : Option Addr) (N cap n : Nat) (L : List Z) (w : World) (hN : L.length = N) (S : Some conv seq size) (hns : (N : Int) = conv + seq) (hn : (n : Int) = seq) (hcap : N ≤ cap) (hr : Rd w w.heap.size A (zc L)) :
    Calls Try.prog 11 #[pgv conv soft seq size opn, .slice A N cap] w fun e w' =>
      (3 < (begX conv size (ptL size (L.drop conv.toNat)) n).length ∧ e = .returned (.tuple #[ppv none 0 0 0 0 0, .bool false]) ∧ Below w.heap.size w w') ∨
      ((begX conv size (ptL size (L.drop conv.toNat)) n).length ≤ 3 ∧ ∃ g, e = .returned (.tuple #[ppv (some ⟨g, 0, none⟩) n n ((begX conv size (ptL size (L.drop conv.toNat)) n).getD 0 0) ((begX conv size (ptL size (L.drop conv.toNat)) n).getD 1 0) ((begX conv size (ptL size (L.drop conv.toNat)) n).getD 2 0), .bool true]) ∧
        w'.ownsRow w.heap.size 3 1 (.slice (some ⟨g, 0, none⟩) n n) n (is (ptL size (L.drop conv.toNat))) ∧ Below w.heap.size w w') := by
  obtain ⟨q1, q2, q3, q4, q5⟩ := S
  have H0 := Lib.hid (One.res w conv soft seq size opn)
  obtain ⟨c, hc⟩ : ∃ c : Nat, conv = (c : Int) := ⟨conv.toNat, by omega⟩
  subst hc
  rw [show ((c : Int)).toNat = c by simp]
  obtain ⟨ad, rfl, _, _⟩ := hr.zone (k := 0) (z := L.getD 0 (0, 0)) (getD_of (by omega))
  have HRd := Lib.hid (show Rd w w.heap.size (some (ad.add (c * 2))) (zc (L.drop c)) by rw [← zc_drop]; exact hr.tail)
  have HUl := Lib.hid (show (L.drop c).length = n by rw [List.length_drop]; omega)
  have HPl := Lib.hid (show (ptL size (L.drop c)).length = n by rw [ptL_length, List.length_drop]; omega)
  have HP := Lib.hid fun k z (h : (L.drop c)[k]? = some z) => ptL_at (size := size) h
  have Hn64 := Lib.hid (show n ≤ 64 by omega)
  have Hn6 := Lib.hid (show 6 ≤ n by omega)
  have HnN := Lib.hid (show N - c = n by omega)
  subst hn
  generalize L.drop c = M at *
  generalize ptL size M = U at *
  have hcI : (c : Int) ≤ (N : Int) := by omega
  have hd0 : decide ((c : Int) < 0) = false := decide_eq_false (by omega)
  have hd1 : decide ((n : Int) < 0) = false := decide_eq_false (by omega)
  have hw0 := IntWalk.i64_in ((c : Int) + (n : Int)) (by omega)
  have hne : ((N : Int) != (c : Int) + (n : Int)) = false := by simp [hns]
  have hcc : ¬ cap = c := by omega
  have hKc := Lib.hid (show (c : Int) + n ≤ 64 by omega)
  have HNs := Lib.hid (And.intro hns hcap)
  clear hr hns hcap q1 q2 q3 q4 q5
  go_enter Try.func11, Try.ntmps11
  have hml : n ≤ maxLen := by have := Hn64.out; simp only [maxLen]; omega
  have hmb : 8 * n ≤ 281474976710656 := by have := Hn64.out; omega
  go_wp2_with (first
    | ((with_reducible refine wpList_make_z _ (o := ⟨some _, .makeSlice _ _ _, _, _, _, _⟩) rfl _ _ 28 rfl 3 _ 8 pelemI rfl .i64 .i64 n n n rfl rfl rfl rfl hml hmb ?_); intro w1 hown1 hb1; have H1 := Lib.hid (OpSt.made H0.out.1 H0.out.2 hown1 hb1 (by have := Hn6.out; omega)); clear hown1 hb1; generalize (World.alloc (World.alloc w _) _).heap.size = gp at H1 ⊢; obtain ⟨c0, c1, c2, c3, c4, cl⟩ := id H1.out.gp1.1)
    | fail)
  rw [HnN.out]
  have HWc := Lib.hid hw0
  clear c0 c1 c2 c3 c4 cl hd0 hd1 hne hcc hw0
  go_loopw [7, 38] (fun v i wr => ∃ (k : Nat) (Y : List Int), k ≤ n ∧ i = .int .i64 k ∧ Y.length = n ∧ Y.take k = U.take k ∧ OpSt w wr gp gp (c : Int) soft (n : Int) size opn n Y v (begX c size U k).length (begX c size U k)) (fun _ i _ => n - (intOf i).toNat)
  case atStart => exact ⟨0, List.replicate n 0, by omega, rfl, by simp, by simp, H1.out⟩
  case round =>
    obtain ⟨k, Y, hk, rfl, hyl, hyt, hst⟩ := hrel
    have HYL := Lib.hid hyl
    have HYT := Lib.hid hyt
    have H2 := Lib.hid hst
    clear hyl hyt hst H1
    by_cases hlt : k < n
    rotate_left
    · obtain rfl : n = k := by omega
      have HYU := Lib.hid (show Y = U by
        have := HYT.out
        rwa [List.take_of_length_le (Nat.le_of_eq HYL.out), List.take_of_length_le (Nat.le_of_eq HPl.out)] at this)
      obtain ⟨A7, c7, rfl⟩ := own_slice H2.out.beg
      have hbl := beg_le (c : Int) size U n
      by_cases h3 : 3 < (begX (c : Int) size U n).length
      · have H3' := Lib.hid h3
        have hd3 : decide ((3 : Int) < ((begX (c : Int) size U n).length : Int)) = true := decide_eq_true (by omega)
        have HRs := Lib.hid H2.out.rs
        generalize hm : (begX (c : Int) size U n).length = m at *
        have HM := Lib.hid hm
        clear hm
        go_wp2_with ((with_reducible refine wpList_pool_store (o := ⟨none, .store _ _ _, _, _, _, _⟩) rfl _ _ rfl _ none none 0 0 0 0 0 0 0 0 0 0 rfl rfl HRs.out ?_); intro w9 x9 hg9; have HF := Lib.hid (H2.out.gp1.2.grown hg9 H2.out.gp1.2.size (fun k hk => by injection hk with hk; omega)); obtain ⟨r0, r1, r2, r3, rl⟩ := Box.pool x9; clear hg9 x9)
        exact bodyPost_ret (v := .tuple #[ppv none 0 0 0 0 0, .bool false]) (by simp [results, Try.results11, go_sem, r0, r1, r2, r3]) rfl (.inl ⟨by rw [HM.out]; exact H3'.out, rfl, HF.out⟩)
      have h3' : (begX (c : Int) size U n).length ≤ 3 := by omega
      have hd3 : decide ((3 : Int) < ((begX (c : Int) size U n).length : Int)) = false := decide_eq_false (by omega)
      have HSp := Lib.hid (splice_heads (g := gp) (n := n) h3')
      have H3' := Lib.hid h3'
      have hsz1 : (Try.prog.info? 3).map (·.size) = some 1 := by kernel_rfl
      have HLen := Lib.hid (show (is (begX (c : Int) size U n)).length = Nat.min (begX (c : Int) size U n).length 3 by rw [is_length]; exact (Nat.min_eq_left h3').symm)
      have HFit := Lib.hid (show 1 + (is (begX (c : Int) size U n)).length ≤ (plcs (some ⟨gp, 0, none⟩) n n 0 0 0).length by rw [is_length]; simp [plcs]; omega)
      generalize hbs : begX (c : Int) size U n = bs at *
      have HBs := Lib.hid hbs
      clear hbs hbl h3 h3'
      generalize hm : bs.length = m at *
      have HM := Lib.hid hm
      clear hm
      generalize he0 : bs.getD 0 0 = e0 at *
      generalize he1 : bs.getD 1 0 = e1 at *
      generalize he2 : bs.getD 2 0 = e2 at *
      have HE := Lib.hid (And.intro he0 (And.intro he1 he2))
      clear he0 he1 he2
      go_wp2_with (first
        | ((with_reducible refine wpList_pool_alloc (o := ⟨_, .alloc _, _, _, _, _⟩) rfl rfl ?_); intro w10 x10 hb10 hs10; clear hs10)
        | ((with_reducible refine wpList_pool_store (o := ⟨none, .store _ _ _, _, _, _, _⟩) rfl _ _ rfl _ (some ⟨gp, 0, none⟩) none n 0 n 0 0 0 0 0 0 0 rfl rfl x10 ?_); intro w11 x11 hg11; have hb11 := hb10.grown hg11 hb10.size (fun k hk => by injection hk with hk; omega); have xh : w11.heap[wr.heap.size]? = some (.cells (plcs (some ⟨gp, 0, none⟩) n n 0 0 0).toArray 31 (0, 0)) := x11; have rd11 := Rd.own (own_below H2.out.beg hb11); have hpos : 0 < (is bs).length → (some (⟨wr.heap.size, 1, none⟩ : Addr) = some ⟨wr.heap.size, 1, none⟩ ∧ ∃ ad, A7 = some ad ∧ ∀ j v, (is bs)[j]? = some v → w11.cell? (ad.add j) = some v) := (fun hp => ⟨rfl, by obtain ⟨ad, e, _, h⟩ := rd11 (List.ne_nil_of_length_pos hp); exact ⟨ad, e, h⟩⟩); clear x10 hb10 hg11 rd11)
        | ((with_reducible refine wpList_copy_splice (o := ⟨_, .call _, _, _, _, _⟩) rfl _ _ 28 28 rfl 3 Try.underlying28 hsz1 _ _ 3 3 m c7 rfl rfl wr.heap.size 1 (plcs (some ⟨gp, 0, none⟩) n n 0 0 0) 31 xh (is bs) HLen.out hpos HFit.out (is_one bs) wr.heap.size wr hb11 (Nat.le_refl _) ?_); intro w12 hx12 hb12; have H12 := Lib.hid (H2.out.on hb12); have hx : Box w12 wr.heap.size 31 (plcs (some ⟨gp, 0, none⟩) n n e0 e1 e2) := (by rw [← HSp.out]; exact hx12.out); have HX := Lib.hid hx; clear hx12 hb12 hpos x11 xh hb11; obtain ⟨b0, b1, b2, b3, bl⟩ := hx.pool; clear hx)
        | ((with_reducible refine wpList_pool_store (o := ⟨none, .store _ _ _, _, _, _, _⟩) rfl _ _ rfl _ (some ⟨gp, 0, none⟩) none n 0 n 0 e0 e1 e2 0 0 0 rfl rfl H12.out.rs ?_); intro w9 x9 hg9; have HF := Lib.hid (H12.out.gp1.2.grown hg9 H12.out.gp1.2.size (fun k hk => by injection hk with hk; omega)); have HO9 := Lib.hid (own_base0 (own_grown H12.out.own hg9 (by have := H12.out.hb; omega)) (by have := H12.out.hb; omega : w.heap.size ≤ gp)); obtain ⟨r0, r1, r2, r3, rl⟩ := Box.pool x9; clear hg9 x9)
        | fail)
      exact bodyPost_ret (v := .tuple #[ppv (some ⟨gp, 0, none⟩) n n e0 e1 e2, .bool true]) (by simp [results, Try.results11, go_sem, r0, r1, r2, r3]) rfl (Or.inr ⟨by rw [HBs.out, HM.out]; exact H3'.out, gp, by rw [HBs.out, HE.out.1, HE.out.2.1, HE.out.2.2], by rw [← HYU.out]; exact HO9.out, HF.out⟩)
    have hz : M[k]? = some (M.getD k (0, 0)) := getD_of (by rw [HUl.out]; exact hlt)
    have HPk := Lib.hid (HP.out k _ hz)
    obtain ⟨ad', hadA, _, hc, hc1⟩ := (HRd.out.one H2.out.gp1).zone hz
    obtain rfl : ad.add (c * 2) = ad' := by injection hadA
    generalize M.getD k (0, 0) = z at hc hc1 HPk
    clear hz hadA
    have hlt' : (k : Int) < (n : Int) := by omega
    have HX := Lib.hid (H2.out.on ((Below.refl wr.heap.size wr).alloc (Nat.le_refl _) (.cells #[.int .i64 z.1, .int .i64 z.2] 56)))
    have hsz2 := H2.out.gp1.2.size
    obtain ⟨c0, c1, c2, c3, c4, cl⟩ := id HX.out.gp1.1
    go_wp2_with fail
    generalize World.alloc _ _ = w3 at HX ⊢
    clear c0 c1 c2 c3 c4 cl hc hc1
    refine (pused_any c soft n size opn z.1 z.2 w3).mono ?_
    rintro e w4 ⟨rfl, hb4⟩
    have H4 := Lib.hid (HX.out.on hb4)
    rw [← HPk.out]
    clear hb4 HX
    have pf := H4.out.own.frozenAt k
    have pc : w4.cell? ⟨gp, k, none⟩ = some (.int .i64 (Y.getD k 0)) := (H4.out.own.cellAt k (by omega)).trans (is_get (by rw [HYL.out]; exact hlt))
    have H5 := Lib.hid (H4.out.point k (U.getD k 0))
    have HYT5 := Lib.hid (show (Y.set k (U.getD k 0)).take (k + 1) = U.take (k + 1) by
      rw [List.take_succ_eq_append_getElem (by rw [List.length_set, HYL.out]; exact hlt), List.take_succ_eq_append_getElem (by rw [HPl.out]; exact hlt), List.take_set_of_le (Nat.le_refl _), HYT.out]
      congr 1
      simp [HPl.out, hlt])
    have HYL5 := Lib.hid (show (Y.set k (U.getD k 0)).length = n by rw [List.length_set]; exact HYL.out)
    have HpcU := Lib.hid (show (is (Y.set k (U.getD k 0)))[k]? = some (.int .i64 (U.getD k 0)) by rw [is_get (by rw [HYL5.out]; exact hlt)]; simp [HYL.out, hlt])
    have HB0 := Lib.hid (beg_no (conv := (c : Int)) (size := size) (U := U) (k := k))
    have HB1 := Lib.hid (beg_yes (conv := (c : Int)) (size := size) (U := U) (k := k))
    have hble := beg_le (c : Int) size U k
    generalize U.getD k 0 = x at *
    go_wp2_with fail
    generalize World.setCell _ _ _ = w5 at H5 ⊢
    clear pf pc H4
    refine wp_region_class (fun w' => OpSt w w' gp gp (c : Int) soft (n : Int) size opn n (Y.set k x) u7 (begX (c : Int) size U k).length (begX (c : Int) size U k)) (by kernel_rfl) (by kernel_rfl) (OpSt.drew H5.out) ?_
    intro X hX f hf hg
    have c0 := fun y => (hf y).gp1.1.1
    have c1 := fun y => (hf y).gp1.1.2.1
    have c2 := fun y => (hf y).gp1.1.2.2.1
    have c3 := fun y => (hf y).gp1.1.2.2.2.1
    have c4 := fun y => (hf y).gp1.1.2.2.2.2.1
    have pc := fun y => ((hf y).own.cellAt k (by omega)).trans HpcU.out
    have Hf := Lib.hid hf
    have Hg := Lib.hid hg
    clear hf hg H5
    repeat (go_big_quiet_step (exact calls_class (ppartly_any c soft n size opn x _) (fun _ hb => Hg.out _ ((Hf.out _).on hb))))
    refine wpQuiet_nil ?_
    rintro _ ⟨y, rfl⟩
    have H6 := Lib.hid (Hf.out y)
    clear c0 c1 c2 c3 c4 pc
    generalize f y = w6 at H6 ⊢
    cases hp : partB size x
    · have HBn := Lib.hid (HB0.out hp)
      clear hp
      go_wp2
      go_roundw
      case rel => exact ⟨k + 1, _, by omega, by go_num, HYL5.out, HYT5.out, by rw [HBn.out]; exact H6.out⟩
      case measure => first | (simp [intOf]; done) | (simp [intOf]; omega)
    · have HBy := Lib.hid (HB1.out hp)
      obtain ⟨c0, c1, c2, c3, c4, cl⟩ := id H6.out.gp1.1
      have hown := H6.out.beg
      have hbs : gp + 1 ≤ w6.heap.size := by have := H6.out.hg.2; omega
      have hwr := IntWalk.i64_in ((c : Int) + (k : Int)) (by have := hKc.out; omega)
      have HBl := Lib.hid (show (begX (c : Int) size U k ++ [(c : Int) + k]).length = (begX (c : Int) size U k).length + 1 by simp)
      generalize (begX (c : Int) size U k).length = m at *
      clear hp
      go_wp2_with (first
        | (at_builtin; go_loud (refine wpList_append_one _ rfl _ _ _ rfl (gp + 1) 3 _ 8 pelemI u7 m _ rfl _ rfl hown rfl (by have := Hn64.out; simp only [maxLen]; omega) (by have := Hn64.out; omega) hbs ?_); intro v8 w8 hown8 hg8; have H8 := Lib.hid (OpSt.more H6.out (bs2 := begX (c : Int) size U k ++ [(c : Int) + k]) (by rw [pis_append, pis_one1]; exact hown8) hg8); clear hown8 hg8)
        | fail)
      go_roundw
      case rel => exact ⟨k + 1, _, by omega, by go_num, HYL5.out, HYT5.out, by rw [HBy.out, HBl.out]; exact H8.out⟩
      case measure => first | (simp [intOf]; done) | (simp [intOf]; omega)
end Go.Proofs.Ytnpnnejopibjcaa

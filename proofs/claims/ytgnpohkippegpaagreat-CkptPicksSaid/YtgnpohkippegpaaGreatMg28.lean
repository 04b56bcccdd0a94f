/-
  LfE LfF LfG
-/
import Derived.Test.YtgnpohkippegpaaGreatMg26
import Derived.Test.YtgnpohkippegpaaGreatMg24
import Derived.Test.YtgnpohkippegpaaGreatMg27
import Derived.Test.YtgnpohkippegpaaGreatMg05
/-
  Package page: taken, Read.
-/
namespace Go.Proofs.YtgnpohkippegpaaGreat
open Go.RowKit Word Crc Leaf
set_option linter.unusedVariables false

/-- what stands in memory while a sector is read: the sector, and the answer's variable -/
def LrSt (w W : World) (p : List Int) : Prop := Box W w.heap.size 43 (bs p) ∧ Box W (w.heap.size + 1) 86 (lcs lf0) ∧ Below w.heap.size w W ∧ w.heap.size + 2 ≤ W.heap.size
theorem LrSt.below {w W W' : World} {p : List Int} (h : LrSt w W p) (hb : Below W.heap.size W W') : LrSt w W' p := by
  have := h.2.2.2
  exact ⟨h.1.below hb (by omega), h.2.1.below hb (by omega), bthen h.2.2.1 hb, Nat.le_trans h.2.2.2 hb.size⟩
theorem LrSt.drew {w W : World} {p : List Int} (h : LrSt w W p) : LrSt w W.drew p := ⟨h.1, h.2.1, h.2.2.1.drew, h.2.2.2⟩
theorem LrSt.start {w w1 w2 : World} {p : List Int} (x0 : Box w1 w.heap.size 43 (bs p)) (hB1 : Below w.heap.size w w1) (hs1 : w1.heap.size = w.heap.size + 1) (x1 : Box w2 w1.heap.size 86 (lcs lf0)) (hB2 : Below w1.heap.size w1 w2) (hs2 : w2.heap.size = w1.heap.size + 1) : LrSt w w2 p := by
  rw [hs1] at x1
  exact ⟨x0.below hB2 (by omega), x1, bthen hB1 hB2, by omega⟩
/-- the leaf that stands in a sector, in a variable of its own beside the others -/
def LrSt2 (w W : World) (p : List Int) (b : Nat) (r : Lf) : Prop := LrSt w W p ∧ Box W b 86 (lcs r) ∧ w.heap.size + 2 ≤ b
theorem LrSt2.below {w W W' : World} {p : List Int} {b : Nat} {r : Lf} (h : LrSt2 w W p b r) (hb : Below W.heap.size W W') : LrSt2 w W' p b r := ⟨h.1.below hb, h.2.1.below hb h.2.1.lt, h.2.2⟩
theorem LrSt2.drew {w W : World} {p : List Int} {b : Nat} {r : Lf} (h : LrSt2 w W p b r) : LrSt2 w W.drew p b r := ⟨h.1.drew, h.2.1, h.2.2⟩
theorem LrSt2.made {w W W' : World} {p : List Int} {b : Nat} {r : Lf} (h : LrSt w W p) (hb : w.heap.size + 2 ≤ b) (hx : Box W' b 86 (lcs r)) (hg : W.grownBy W' (some b)) : LrSt2 w W' p b r :=
  ⟨⟨h.1.grown hg (by omega), h.2.1.grown hg (by omega), below_stored h.2.2.1 hg h.2.2.1.size (by omega), Nat.le_trans h.2.2.2 hg.size⟩, hx, hb⟩
theorem LrSt2.set {w W : World} {p : List Int} {b : Nat} {r : Lf} (h : LrSt2 w W p b r) (k : Nat) (v : Int) : LrSt2 w (W.setCell ⟨b, 2 + k, none⟩ (.int .i64 v)) p b { r with places := r.places.set k v } := by
  have e : ∀ x, x ≠ b → (W.setCell ⟨b, 2 + k, none⟩ (.int .i64 v)).heap[x]? = W.heap[x]? := fun x hx => heap_setCell_other _ _ _ _ hx
  obtain ⟨L1, L2, L3⟩ := h
  refine ⟨⟨L1.1.same (e _ (by omega)), L1.2.1.same (e _ (by omega)), L1.2.2.1.setCell (by show w.heap.size ≤ b; omega) _, by have := L1.2.2.2; simpa [World.setCell] using this⟩, ?_, L3⟩
  have := L2.set (2 + k) (.int .i64 v)
  rwa [lcs_set] at this

set_option maxRecDepth 100000 in
set_option maxHeartbeats 2000000 in
theorem lftaken_any (p : List Int) (w : World) (hl : p.length = 64) (hp : octets p) :
    Calls Tryz.prog 100 #[.agg (bs p).toArray] w fun e w' => e = .returned (.agg (lcs (taken p)).toArray) ∧ Below w.heap.size w w' := by
  obtain ⟨m, hm, hsz⟩ := big_size (P := Tryz.prog) (t := 43) (s := 64) (by kernel_rfl)
  obtain ⟨mr, hmr, hszr⟩ := big_size (P := Tryz.prog) (t := 86) (s := 12) (by kernel_rfl)
  have hm0 : ¬ m = 0 := by omega
  have hmr0 : ¬ mr = 0 := by omega
  have HP := Lib.hid (And.intro hl hp)
  have HM := Lib.hid (And.intro hm hmr)
  have LP := Lib.hid fun (W : World) (L : LrSt w W p) => big_load0 Tryz.prog w.heap.size 0 (bs p) m (by rw [bs_length, HP.out.1, HM.out.1]) W L.1.range0
  have G1 := Lib.hid fun w' => (lfget_any 1 8 p w' (by omega) (by omega) (by omega) hl hp : Calls Tryz.prog 104 #[.agg (bs p).toArray, .int .i64 1, .int .i64 8] w' _)
  have G2 := Lib.hid fun w' => (lfget_any 9 4 p w' (by omega) (by omega) (by omega) hl hp : Calls Tryz.prog 104 #[.agg (bs p).toArray, .int .i64 9, .int .i64 4] w' _)
  have G3 := Lib.hid fun (k : Nat) (hk : k < 10) w' => (lfget_any (13 + 4 * k) 4 p w' (by omega) (by omega) (by omega) hl hp : Calls Tryz.prog 104 #[.agg (bs p).toArray, .int .i64 ((13 + 4 * k : Nat) : Int), .int .i64 4] w' _)
  have HT := Lib.hid (show taken p = ⟨Rec.i64 (get p 1 8), Rec.i64 (get p 9 4), (List.range 10).map fun i => Rec.i64 (get p (13 + 4 * i) 4)⟩ from rfl)
  clear hm hmr hl hp
  generalize Rec.i64 (get p 1 8) = v1 at *
  generalize Rec.i64 (get p 9 4) = v2 at *
  have HV := Lib.hid (fun (k : Nat) (hk : k < 10) => show (((List.range 10).map fun i => Rec.i64 (get p (13 + 4 * i) 4)).getD k 0) = Rec.i64 (get p (13 + 4 * k) 4) by simp [List.getD_eq_getElem?_getD, hk])
  have HVl := Lib.hid (show ((List.range 10).map fun i => Rec.i64 (get p (13 + 4 * i) 4)).length = 10 by simp)
  generalize ((List.range 10).map fun i => Rec.i64 (get p (13 + 4 * i) 4)) = V at *
  go_enter Tryz.func100, Tryz.ntmps100
  go_wp2_with (first
    | ((with_reducible refine wpList_pg_box (o := ⟨some 1, .box _ _, _, _, _, _⟩) rfl _ rfl p rfl ?_); intro w1 x0 hB1 hs1)
    | ((with_reducible refine wpList_lf_alloc (o := ⟨some 2, .alloc _, _, _, _, _⟩) rfl rfl ?_); intro w2 x1 hB2 hs2; have L := LrSt.start x0 hB1 hs1 x1 hB2 hs2; rw [hs1]; clear hs1 hs2 x0 x1 hB1 hB2)
    | fail)
  have hSd : LrSt w w2.drew p := L.drew
  refine wp_region_alloc (fun w' => LrSt w w' p) 5 86 (lcs lf0) 3 ?ot1 ?hot1 ?hop1 ?hog1 ?hod1 ?hz1 ?hm1 ?hB1 ?hSB1 ?hS1 ?h1
  case hot1 => exact rfl
  case hop1 => exact rfl
  case hog1 => exact rfl
  case hod1 => exact rfl
  case hz1 => exact zero_leaf
  case hm1 => kernel_rfl
  case hB1 => kernel_rfl
  case hSB1 => exact fun _ _ h hb => h.below hb
  case hS1 => exact L.drew
  clear L
  simp only [List.take_succ_cons, List.take_zero, List.drop_succ_cons, List.drop_zero]
  try simp only [Act.put, List.setIfInBounds_toArray, List.set_cons_succ, List.set_cons_zero]
  refine wpR_take 1 ?hp2 w2.drew ?hw2 ?h2
  case hp2 => kernel_rfl
  case hw2 => exact hSd
  simp only [List.take_succ_cons, List.take_zero, List.drop_succ_cons, List.drop_zero]
  intro X hX f hf
  have cl := fun x => LP.out _ (hf x)
  clear hf
  repeat (go_big_quiet_step (fail))
  refine wpQuiet_nil ?_
  clear cl hX
  clear f
  refine wpR_call ?hgd3 104 ?xs3 ?ts3 ?ho3 #[.agg (bs p).toArray, .int .i64 1, .int .i64 8] ?hx3 ?hE3 (.int .i64 v1) ?hc3 ?h3
  case hgd3 => exact rfl
  case ho3 => exact rfl
  case hx3 => simp [Act.eval]
  case hE3 => exact fun w => enters_in Tryz.func104 (by kernel_rfl) rfl _ w
  case hc3 => exact fun w _ => G1.out w
  simp only [Act.put, List.setIfInBounds_toArray, List.set_cons_succ, List.set_cons_zero]
  refine wpR_take 1 ?hp4 w2.drew ?hw4 ?h4
  case hp4 => kernel_rfl
  case hw4 => exact hSd
  simp only [List.take_succ_cons, List.take_zero, List.drop_succ_cons, List.drop_zero]
  intro X hX f hf
  have cl := fun x => LP.out _ (hf x)
  clear hf
  repeat (go_big_quiet_step (fail))
  refine wpQuiet_nil ?_
  clear cl hX
  clear f
  refine wpR_call ?hgd5 104 ?xs5 ?ts5 ?ho5 #[.agg (bs p).toArray, .int .i64 9, .int .i64 4] ?hx5 ?hE5 (.int .i64 v2) ?hc5 ?h5
  case hgd5 => exact rfl
  case ho5 => exact rfl
  case hx5 => simp [Act.eval]
  case hE5 => exact fun w => enters_in Tryz.func104 (by kernel_rfl) rfl _ w
  case hc5 => exact fun w _ => G2.out w
  simp only [Act.put, List.setIfInBounds_toArray, List.set_cons_succ, List.set_cons_zero]
  refine wpR_val ?hgdb (.agg (lcs ⟨v1, v2, z10⟩).toArray) ?heb ?hb
  case hgdb => exact rfl
  case heb =>
    intro w'
    have e := run_build_leaf2 w' v1 v2
    simp only [execOp, List.map_toArray, List.map_cons, List.map_nil, Act.eval]
    simp [e]
  rintro b w' ⟨w0, hw0, rfl⟩ hw' hb'
  have hb2 := hw0.2.2.2
  clear hw0
  generalize w0.heap.size = b at hb' hb2 ⊢
  have H5 := Lib.hid (show In ⟨v1, v2, z10⟩ from lf0_in)
  have HW := Lib.hid hw'
  simp only [Act.put, List.setIfInBounds_toArray, List.set_cons_succ, List.set_cons_zero]
  clear G1 G2 hSd hw'
  go_wp2_with (first
    | ((with_reducible refine wpList_lf_store (o := ⟨none, .store _ _ _, _, _, _, _⟩) rfl _ _ rfl b ⟨v1, v2, z10⟩ lf0 H5.out lf0_in rfl rfl hb' ?_); intro w6 x6 hg6 _)
    | fail)
  have HL := Lib.hid (LrSt2.made HW.out hb2 x6 hg6)
  clear hb' x6 hg6 HW H5
  -- the places
  go_loopw [10] (fun i wr => ∃ k : Nat, k ≤ 10 ∧ i = .int .i64 k ∧ LrSt2 w wr p b ⟨v1, v2, mix V z10 k⟩) (fun i _ => 10 - (intOf i).toNat)
  case atStart => exact ⟨0, by omega, rfl, by rw [mix_zero]; exact HL.out⟩
  case round =>
    clear HL
    obtain ⟨k, hk, rfl, L⟩ := hrel
    by_cases hlt : k < 10
    · go_wp2_with fail
      have HPA := Lib.hid fun w' => placeAt_any k w' hk
      have HG := Lib.hid (G3.out k hlt)
      have HVk := Lib.hid (HV.out k hlt)
      generalize hq : ((13 + 4 * k : Nat) : Int) = q at HPA HG
      generalize hv : Rec.i64 (get p (13 + 4 * k) 4) = v at HG HVk
      clear hq hv
      refine wp_region_class_tail (fun w' => LrSt2 w w' p b ⟨v1, v2, mix V z10 k⟩) 7 (by kernel_rfl) (by kernel_rfl) L.drew ?_
      intro X hX f hf hg
      have cl := fun x => LP.out _ (hf x).1
      have Hf := Lib.hid hf
      have Hg := Lib.hid hg
      clear hf hg L
      simp only [List.take_succ_cons, List.take_zero, List.drop_succ_cons, List.drop_zero]
      repeat (go_big_quiet_step (first | (go_at_call 76; with_reducible exact calls_class (HPA.out _) (fun _ h => ⟨_, h.symm⟩)) | (go_at_call 104; with_reducible exact calls_class (HG.out _) (fun _ hb => Hg.out _ ((Hf.out _).below hb)))))
      refine wpQuiet_nil ?_
      rintro _ ⟨y, rfl⟩
      have L := Hf.out y
      clear cl Hf Hg
      generalize f y = W2 at L ⊢
      clear hX
      have hml : (mix V z10 k).length = 10 := (mix_length (by rw [HVl.out]; rfl) hk).trans rfl
      have c0 := L.2.1.lfPlace (k := k) (by show k < (mix V z10 k).length; rw [hml]; exact hlt)
      have f0 := L.2.1.frozen (2 + k)
      have HX := Lib.hid (mix_set (S := V) (p := z10) (n := k) (by rw [HVl.out]; rfl) hlt)
      have HL := Lib.hid (L.set k v)
      clear L
      simp only at c0
      generalize (mix V z10 k).getD k 0 = s0 at c0
      go_wp2_with fail
      go_roundw
      case rel =>
        refine ⟨k + 1, by omega, by go_num, ?_⟩
        have := HL.out
        simp only at this
        rw [← HVk.out, HX.out] at this
        rw [← HVk.out]
        exact this
      case measure => simp [intOf]; omega
    · obtain rfl : k = 10 := by omega
      rw [mix_all (S := V) (p := z10) (n := 10) (by rw [HVl.out]; rfl) rfl, ← HT.out] at L
      have HI := Lib.hid (taken_in p)
      have hldb := big_load0 Tryz.prog b 0 (lcs (taken p)) mr (by rw [lcs_length HI.out, HM.out.2]) _ L.2.1.range0
      have HX := Lib.hid L.1.2.1
      have HB := Lib.hid L.1.2.2
      clear L
      go_wp2_with (first
        | ((with_reducible refine wpList_lf_store (o := ⟨none, .store _ _ _, _, _, _, _⟩) rfl _ _ rfl (w.heap.size + 1) (taken p) lf0 HI.out lf0_in rfl rfl HX.out ?_); intro w9 hb9 hg9 _)
        | fail)
      have hldF := big_load0 Tryz.prog (w.heap.size + 1) 0 (lcs (taken p)) mr (by rw [lcs_length HI.out, HM.out.2]) _ hb9.range0
      generalize hR : lcs (taken p) = R at hldF ⊢
      exact bodyPost_ret (v := .agg R.toArray) (by simp [results, Tryz.results100, go_sem, hszr, hldF]) rfl ⟨rfl, below_stored HB.out.1 hg9 HB.out.1.size (by omega)⟩

set_option maxRecDepth 100000 in
set_option maxHeartbeats 2000000 in
theorem lfread_any (p : List Int) (w : World) (hl : p.length = 64) (hp : octets p) :
    Calls Tryz.prog 93 #[.agg (bs p).toArray] w fun e w' => e = .returned (.tuple #[.agg (lcs (readS p).1).toArray, .int .i64 (readS p).2]) ∧ Below w.heap.size w w' := by
  obtain ⟨m, hm, hsz⟩ := big_size (P := Tryz.prog) (t := 43) (s := 64) (by kernel_rfl)
  obtain ⟨mr, hmr, hszr⟩ := big_size (P := Tryz.prog) (t := 86) (s := 12) (by kernel_rfl)
  have hm0 : ¬ m = 0 := by omega
  have hmr0 : ¬ mr = 0 := by omega
  have HP := Lib.hid (And.intro hl hp)
  have HM := Lib.hid (And.intro hm hmr)
  clear hm hmr hl hp
  go_enter Tryz.func93, Tryz.ntmps93
  go_wp2_with (first
    | ((with_reducible refine wpList_pg_box (o := ⟨some 1, .box _ _, _, _, _, _⟩) rfl _ rfl p rfl ?_); intro w1 x0 hB1 hs1)
    | ((with_reducible refine wpList_lf_alloc (o := ⟨some 2, .alloc _, _, _, _, _⟩) rfl rfl ?_); intro w2 x1 hB2 hs2; have L := LrSt.start x0 hB1 hs1 x1 hB2 hs2; rw [hs1]; clear hs1 hs2 x0 x1 hB1 hB2)
    | fail)
  have HRi := Lib.hid (cright_any (some ⟨w.heap.size, 0, none⟩) 64 64 p w2 (by decide) (by decide) (by decide) HP.out.1 HP.out.2 _ (Rd.own (L.1.own (by rw [bs_length, HP.out.1]) (by decide) 0 (Nat.zero_le _))))
  refine HRi.out.mono ?_
  rintro e w3 ⟨rfl, q, rfl⟩
  replace L : LrSt w (w2.drewN q) p := ⟨L.1, L.2.1, below_draws L.2.2.1 q, L.2.2.2⟩
  generalize w2.drewN q = w3 at L ⊢
  clear HRi
  cases hri : rightB p with
  | false =>
    have HS := Lib.hid (show readS p = (lf0, 8) by unfold readS; rw [if_pos hri])
    have HX := Lib.hid L.2.1
    have HB := Lib.hid L.2.2
    clear hri L
    go_wp2_with (first
      | (with_reducible refine wpList_lf_zero (o := ⟨some 8, .build _ _, _, _, _, _⟩) rfl rfl ?_)
      | ((with_reducible refine wpList_lf_store (o := ⟨none, .store _ _ _, _, _, _, _⟩) rfl _ _ rfl (w.heap.size + 1) lf0 lf0 lf0_in lf0_in rfl rfl HX.out ?_); intro w9 hb9 hg9 _)
      | fail)
    have hldF := big_load0 Tryz.prog (w.heap.size + 1) 0 (lcs lf0) mr (by rw [lcs_length lf0_in, HM.out.2]) _ hb9.range0
    generalize hR : lcs lf0 = R at hldF ⊢
    exact bodyPost_ret (v := .tuple #[.agg R.toArray, .int .i64 8]) (by simp [results, Tryz.results93, go_sem, hszr, hldF]) rfl ⟨by rw [HS.out, hR], below_stored HB.out.1 hg9 HB.out.1.size (by omega)⟩
  | true =>
    have HTk := Lib.hid fun w' => lftaken_any p w' HP.out.1 HP.out.2
    have HI := Lib.hid (taken_in p)
    have hld := big_load0 Tryz.prog w.heap.size 0 (bs p) m (by rw [bs_length, HP.out.1, HM.out.1]) _ L.1.range0
    have HL := Lib.hid L
    clear L
    go_wp2_with fail
    refine (HTk.out _).mono ?_
    rintro e w4 ⟨rfl, hb4⟩
    have HL' := Lib.hid (HL.out.below hb4)
    clear HL hld hb4
    go_wp2_with (first
      | ((with_reducible refine wpList_lf_alloc (o := ⟨some 4, .alloc _, _, _, _, _⟩) rfl rfl ?_); intro w5 x5 hB5 _)
      | ((with_reducible refine wpList_lf_store (o := ⟨none, .store _ _ _, _, _, _, _⟩) rfl _ _ rfl w4.heap.size (taken p) lf0 HI.out lf0_in rfl rfl x5 ?_); intro w6 x6 hg6 _)
      | fail)
    have L2 := LrSt2.made (HL'.out.below hB5) HL'.out.2.2.2 x6 hg6
    clear x5 hB5 x6 hg6 HL' HTk
    have HQ := Lib.hid fun w' => lfright_any (taken p) w' HI.out
    have HS' := Lib.hid (show readS p = if okB (taken p) = true ∧ layL (taken p) = p then (taken p, 0) else (lf0, 7) by unfold readS; rw [if_neg (by rw [hri]; simp)])
    clear hri
    generalize w4.heap.size = b at L2 ⊢
    generalize htk : taken p = tk at *
    clear htk
    have LP := Lib.hid fun (W : World) (L : LrSt2 w W p b tk) => big_load0 Tryz.prog w.heap.size 0 (bs p) m (by rw [bs_length, HP.out.1, HM.out.1]) W L.1.1.range0
    have LR := Lib.hid fun (W : World) (L : LrSt2 w W p b tk) => big_load0 Tryz.prog b 0 (lcs tk) mr (by rw [lcs_length HI.out, HM.out.2]) W L.2.1.range0
    cases hok : okB tk with
    | false =>
      have HS := Lib.hid (show readS p = (lf0, 7) by rw [HS'.out, hok]; rfl)
      rw [hok] at HQ
      clear HS' hok
      refine wp_region_class (fun w' => LrSt2 w w' p b tk) (by kernel_rfl) (by kernel_rfl) L2.drew ?_
      intro X hX f hf hg
      have cl := fun x => LP.out _ (hf x)
      have cr := fun x => LR.out _ (hf x)
      have Hf := Lib.hid hf
      have Hg := Lib.hid hg
      clear hf hg L2
      simp only [Act.put, List.setIfInBounds_toArray, List.set_cons_succ, List.set_cons_zero]
      repeat (go_big_quiet_step (first
        | (go_at_call 101; exact calls_class (HQ.out _) (fun _ hb => Hg.out _ ((Hf.out _).below hb)))))
      refine wpQuiet_nil ?_
      rintro _ ⟨x, rfl⟩
      have HX := Lib.hid (Hf.out x).1.2.1
      have HB := Lib.hid (Hf.out x).1.2.2
      clear cl cr Hf Hg
      generalize f x = wx at HX HB ⊢
      go_wp2_with (first
        | (with_reducible refine wpList_lf_zero (o := ⟨some 20, .build _ _, _, _, _, _⟩) rfl rfl ?_)
        | ((with_reducible refine wpList_lf_store (o := ⟨none, .store _ _ _, _, _, _, _⟩) rfl _ _ rfl (w.heap.size + 1) lf0 lf0 lf0_in lf0_in rfl rfl HX.out ?_); intro w9 hb9 hg9 _)
        | fail)
      have hldF := big_load0 Tryz.prog (w.heap.size + 1) 0 (lcs lf0) mr (by rw [lcs_length lf0_in, HM.out.2]) _ hb9.range0
      generalize hR : lcs lf0 = R at hldF ⊢
      exact bodyPost_ret (v := .tuple #[.agg R.toArray, .int .i64 7]) (by simp [results, Tryz.results93, go_sem, hszr, hldF]) rfl ⟨by rw [HS.out, hR], below_stored HB.out.1 hg9 HB.out.1.size (by omega)⟩
    | true =>
      have HLay := Lib.hid fun w' => lflay_any tk w' (of_decide_eq_true hok) HI.out
      have HLL := Lib.hid (layL_length tk HI.out)
      have hq := fun w' => pg_equal w' (layL tk) p HLL.out HP.out.1
      have hgd := pg_guard
      cases heq : (layL tk == p) with
      | false =>
        have HS := Lib.hid (show readS p = (lf0, 7) by rw [HS'.out, if_neg]; rintro ⟨_, h⟩; rw [h] at heq; simp at heq)
        rw [hok] at HQ
        rw [heq] at hq
        clear HS' hok heq
        generalize bs (layL tk) = Y at hq HLay
        refine wp_region_class (fun w' => LrSt2 w w' p b tk) (by kernel_rfl) (by kernel_rfl) L2.drew ?_
        intro X hX f hf hg
        have cl := fun x => LP.out _ (hf x)
        have cr := fun x => LR.out _ (hf x)
        have Hf := Lib.hid hf
        have Hg := Lib.hid hg
        clear hf hg L2
        simp only [Act.put, List.setIfInBounds_toArray, List.set_cons_succ, List.set_cons_zero]
        repeat (go_big_quiet_step (first
          | (go_at_call 101; exact calls_class (HQ.out _) (fun _ hb => Hg.out _ ((Hf.out _).below hb)))
          | (go_at_call 50; exact calls_class (HLay.out _) (fun _ hb => Hg.out _ ((Hf.out _).below hb)))))
        refine wpQuiet_nil ?_
        rintro _ ⟨x, rfl⟩
        have HX := Lib.hid (Hf.out x).1.2.1
        have HB := Lib.hid (Hf.out x).1.2.2
        clear cl cr Hf Hg
        generalize f x = wx at HX HB ⊢
        go_wp2_with (first
          | (with_reducible refine wpList_lf_zero (o := ⟨some 20, .build _ _, _, _, _, _⟩) rfl rfl ?_)
          | ((with_reducible refine wpList_lf_store (o := ⟨none, .store _ _ _, _, _, _, _⟩) rfl _ _ rfl (w.heap.size + 1) lf0 lf0 lf0_in lf0_in rfl rfl HX.out ?_); intro w9 hb9 hg9 _)
          | fail)
        have hldF := big_load0 Tryz.prog (w.heap.size + 1) 0 (lcs lf0) mr (by rw [lcs_length lf0_in, HM.out.2]) _ hb9.range0
        generalize hR : lcs lf0 = R at hldF ⊢
        exact bodyPost_ret (v := .tuple #[.agg R.toArray, .int .i64 7]) (by simp [results, Tryz.results93, go_sem, hszr, hldF]) rfl ⟨by rw [HS.out, hR], below_stored HB.out.1 hg9 HB.out.1.size (by omega)⟩
      | true =>
        have HS := Lib.hid (show readS p = (tk, 0) by rw [HS'.out, if_pos ⟨hok, eq_of_beq heq⟩])
        rw [hok] at HQ
        rw [heq] at hq
        clear HS' hok heq
        generalize bs (layL tk) = Y at hq HLay
        refine wp_region_class (fun w' => LrSt2 w w' p b tk) (by kernel_rfl) (by kernel_rfl) L2.drew ?_
        intro X hX f hf hg
        have cl := fun x => LP.out _ (hf x)
        have cr := fun x => LR.out _ (hf x)
        have Hf := Lib.hid hf
        have Hg := Lib.hid hg
        clear hf hg L2
        simp only [Act.put, List.setIfInBounds_toArray, List.set_cons_succ, List.set_cons_zero]
        repeat (go_big_quiet_step (first
          | (go_at_call 101; exact calls_class (HQ.out _) (fun _ hb => Hg.out _ ((Hf.out _).below hb)))
          | (go_at_call 50; exact calls_class (HLay.out _) (fun _ hb => Hg.out _ ((Hf.out _).below hb)))))
        refine wpQuiet_nil ?_
        rintro _ ⟨x, rfl⟩
        have HX := Lib.hid (Hf.out x).1.2.1
        have HB := Lib.hid (Hf.out x).1.2.2
        have HT := Lib.hid (Hf.out x)
        clear cl cr Hf Hg
        generalize f x = wx at HX HB HT ⊢
        have cr := LR.out _ HT.out
        go_wp2_with (first
          | ((with_reducible refine wpList_lf_store (o := ⟨none, .store _ _ _, _, _, _, _⟩) rfl _ _ rfl (w.heap.size + 1) tk lf0 HI.out lf0_in rfl rfl HX.out ?_); intro w9 hb9 hg9 _)
          | fail)
        have hldF := big_load0 Tryz.prog (w.heap.size + 1) 0 (lcs tk) mr (by rw [lcs_length HI.out, HM.out.2]) _ hb9.range0
        generalize hR : lcs tk = R at hldF ⊢
        exact bodyPost_ret (v := .tuple #[.agg R.toArray, .int .i64 0]) (by simp [results, Tryz.results93, go_sem, hszr, hldF]) rfl ⟨by rw [HS.out, hR], below_stored HB.out.1 hg9 HB.out.1.size (by omega)⟩
end Go.Proofs.YtgnpohkippegpaaGreat

/-
  'awake' of layer 7 answers true; a leaf as an argument opened.
-/
namespace Go.Proofs.YtgnpohkippegpaaGreat
open Go.RowKit Word Crc Leaf
set_option linter.unusedVariables false

set_option maxRecDepth 100000 in
theorem open_leaf {H : Type} {enc : TypeId × Value → H} {w : World} {base b0 : Nat} {r : Reach} {sp : Nat → Bool} {held : Bool} {v : Value} {d : DataW H} {ps : List MemPlace}
    (hu : Value.okWide Tryz.prog w r b0 86 v) (h : DataW.Trod enc Tryz.prog w base sp held 86 v d ps) : ∃ x : Lf, v = .agg (lcs x).toArray ∧ In x := by
  obtain ⟨cs, rfl, hs⟩ := has_agg (s := .pair 1 (.int .i64) (.pair 1 (.int .i64) (.pair 10 (.rep 10 1 (.int .i64)) .nil))) 3 (by kernel_rfl) h hu (.inl ⟨_, Tryz.underlying86⟩)
  obtain ⟨_, _, rfl, _, ⟨k, rfl, _⟩, _, _, rfl, _, ⟨e, rfl, _⟩, _, _, rfl, _, hd, rfl⟩ := hs
  obtain ⟨ws, h1, rfl, h3⟩ := has_ints hd
  refine ⟨⟨k, e, ws⟩, ?_, h1⟩
  simp [lcs, is]

abbrev lfA : Lf := ⟨3, 2, 258 :: List.replicate 9 0⟩
theorem lfA_ok : Ok lfA := by decide
theorem lfA_in : In lfA := by simp [In]
theorem lfA_lay : (layL lfA).getD 0 0 = 128 ∧ (layL lfA).getD 1 0 = 3 ∧ (layL lfA).getD 9 0 = 2 ∧ (layL lfA).getD 13 0 = 2 ∧ (layL lfA).getD 14 0 = 1 := by decide +kernel
theorem lfread_pg0 : readS pg0 = (lf0, 8) := by unfold readS; rw [if_pos (show rightB pg0 = false by decide +kernel)]
theorem lfA_build (w : World) : (Instr.build 86 #[(0, .int .i64 3), (1, .int .i64 2), (2, .agg (is (258 :: List.replicate 9 0)).toArray)]).run Tryz.prog w = .ok (.agg (lcs lfA).toArray) w := run_build_leaf3 w lfA lfA_in
end Go.Proofs.YtgnpohkippegpaaGreat

/-
  The walks of the laws PageBack, PageAlone, PageOnly.
-/
namespace Go.Proofs.YtgnpohkippegpaaGreat
open Go.RowKit Word Crc Leaf
set_option linter.unusedVariables false

/-- two arguments in variables of their own -/
def TwoBx (w W : World) (T : TypeId) (cs : List Value) (U : TypeId) (ds : List Value) : Prop := Box W w.heap.size T cs ∧ Box W (w.heap.size + 1) U ds ∧ Below w.heap.size w W ∧ w.heap.size + 2 ≤ W.heap.size
section
variable {w W W' : World} {T U : TypeId} {cs ds : List Value}
theorem TwoBx.on (h : TwoBx w W T cs U ds) (hb : Below W.heap.size W W') : TwoBx w W' T cs U ds := ⟨h.1.on hb, h.2.1.on hb, bthen h.2.2.1 hb, Nat.le_trans h.2.2.2 hb.size⟩
theorem TwoBx.drew (h : TwoBx w W T cs U ds) : TwoBx w W.drew T cs U ds := ⟨h.1, h.2.1, h.2.2.1.drew, h.2.2.2⟩
theorem TwoBx.start {w w1 w2 : World} (x0 : Box w1 w.heap.size T cs) (hB1 : Below w.heap.size w w1) (hs1 : w1.heap.size = w.heap.size + 1) (x1 : Box w2 w1.heap.size U ds) (hB2 : Below w1.heap.size w1 w2) (hs2 : w2.heap.size = w1.heap.size + 1) : TwoBx w w2 T cs U ds := by
  rw [hs1] at x1
  exact ⟨x0.below hB2 (by omega), x1, bthen hB1 hB2, by omega⟩
end
/-- a third variable beside them -/
def ThreeBx (w W : World) (T : TypeId) (cs : List Value) (U : TypeId) (ds : List Value) (b : Nat) (V : TypeId) (es : List Value) : Prop := TwoBx w W T cs U ds ∧ Box W b V es ∧ w.heap.size + 2 ≤ b
section
variable {w W W' : World} {T U V : TypeId} {cs ds es : List Value} {b : Nat}
theorem ThreeBx.on (h : ThreeBx w W T cs U ds b V es) (hb : Below W.heap.size W W') : ThreeBx w W' T cs U ds b V es := ⟨h.1.on hb, h.2.1.on hb, h.2.2⟩
theorem ThreeBx.drew (h : ThreeBx w W T cs U ds b V es) : ThreeBx w W.drew T cs U ds b V es := ⟨h.1.drew, h.2⟩
theorem ThreeBx.made (h : TwoBx w W T cs U ds) (hB : Below W.heap.size W W') (hx : Box W' W.heap.size V es) : ThreeBx w W' T cs U ds W.heap.size V es := ⟨h.on hB, hx, h.2.2.2⟩
end

end Go.Proofs.YtgnpohkippegpaaGreat

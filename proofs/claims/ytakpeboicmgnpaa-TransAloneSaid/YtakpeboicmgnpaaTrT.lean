/-
  The answer's Put of layer 18.
-/
import Derived.Test.YtakpeboicmgnpaaTrS
namespace Go.Proofs.Ytakpeboicmgnpaa
open Go.RowKit Word Tran
set_option linter.unusedVariables false

theorem rp_box {w : World} {b : Nat} {T : TypeId} {u v V : Value} (h : Box w b T [u, v, V]) : w.cell? ⟨b, 0, none⟩ = some u ∧ w.cell? ⟨b, 1, none⟩ = some v ∧ w.cell? ⟨b, 2, none⟩ = some V := ⟨h.cell 0, h.cell 1, h.cell 2⟩
theorem rp_one (a b : Int) (A : Option Addr) (n c : Nat) : ∀ u ∈ [Value.int .i64 a, .int .i64 b, .slice A n c], u.oneCell' = true := by
  intro u hu
  simp at hu
  rcases hu with rfl | rfl | rfl <;> rfl
theorem rp_size (a b : Int) (A : Option Addr) (n c : Nat) : (Try.prog.info? 24).map (·.size) = some [Value.int .i64 a, .int .i64 b, .slice A n c].length := tn_size tz
theorem rp_len (a b : Int) (A : Option Addr) (n c : Nat) : (tnc tz).length = [Value.int .i64 a, .int .i64 b, .slice A n c].length := rfl
theorem rp_elt {w : World} {B k m : Nat} {ad : Addr} {l : List Wt} {o : Wt} (hr : Rd w B (some ad) (tws l)) (hin : ∀ o ∈ l, WIn o) (hk : l[k]? = some o) (hm : m = 34) : w.cell? (ad.add (k * m)) = some (.int .i64 o.b) := by
  obtain ⟨ad2, e, _, h⟩ := wt_b (m := m) hr hin hk hm
  injection e with e
  rw [e]
  exact h
theorem rp_load {w : World} {B k m : Nat} {ad : Addr} {l : List Wt} {o : Wt} (hr : Rd w B (some ad) (tws l)) (hin : ∀ o ∈ l, WIn o) (hk : l[k]? = some o) (hm : m = 34) : (loadCellsFrom (ad.add (k * m)) 0 m #[]).run Try.prog w = .ok (twc o).toArray w := by
  obtain ⟨ad2, e, h, _⟩ := wt_load (m := m) hr hin hk hm
  injection e with e
  rw [e]
  exact h
theorem wpList_build_zero2 {P : Program} (w : World) {ops : Array Oper} {rest : List Oper} {o : Oper} {a : Act} {Q : Exit → Act → World → Prop} (hgd : o.guard = none) (t : TypeId) (x0 x1 : Operand) (v0 : Value) (ho : o.op = .build t #[(0, x0), (1, x1)]) (cs : List Value) {v1 : Value} (hb : ∀ w, (Instr.build t #[(0, v0), (1, v1)]).run P w = .ok (.agg cs.toArray) w) (h0 : a.eval x0 = v0) (h1 : a.eval x1 = v1)
    (h : wpList P ops Q rest (a.put o.dst (.agg cs.toArray)) w) : wpList P ops Q (o :: rest) a w := by
  refine wpList_plain hgd fun K hK => ?_
  unfold Oper.wp
  simp [execOp, ho, h0, h1, hb w, Result.andThen]
  exact hK _ _ h
theorem tv2 {id bg : Int} {ws : List Wt} {A : Option Addr} {c n : Nat} (h : ws.length = n) : tval ⟨⟨id, bg, ws⟩, A, c⟩ = .agg #[.int .i64 id, .int .i64 bg, .slice A n c] := by
  subst h
  rfl
/-- the variables of the answer's Put at its beginning -/
structure RpA (w wr : World) (x : Tv) (y : Wt) : Prop where
  b0 : Box wr w.heap.size 24 (tnc x)
  b1 : Box wr (w.heap.size + 1) 28 (twc y)
  b2 : Box wr (w.heap.size + 1 + 1) 24 (tnc tz)
  sz : wr.heap.size = w.heap.size + 1 + 1 + 1
  below : Below w.heap.size w wr
theorem RpA.put {w wr w' : World} {x : Tv} {y q : Wt} (h : RpA w wr x y) (hx : Box w' (w.heap.size + 1) 28 (twc q)) (hg : wr.grownBy w' (some (w.heap.size + 1))) (hs : w'.heap.size = wr.heap.size) : RpA w w' x q :=
  ⟨h.b0.grown hg (by omega), hx, h.b2.grown hg (by omega), hs.trans h.sz, below_stored h.below hg h.below.size (by omega)⟩
/-- what stands in memory while the answer's Put works -/
structure RpSt (w wr : World) (x : Tv) (q : Wt) (V : Value) (O : List Wt) : Prop where
  b0 : Box wr w.heap.size 24 (tnc x)
  b1 : Box wr (w.heap.size + 1) 28 (twc q)
  b2 : Box wr (w.heap.size + 1 + 1) 24 (tnc tz)
  b3 : Box wr (w.heap.size + 1 + 1 + 1) 24 [.int .i64 x.t.id, .int .i64 x.t.bg, V]
  own : wr.ownsRow (w.heap.size + 1 + 1 + 1 + 1) 28 34 V O.length (tws O)
  below : Below w.heap.size w wr
section
variable {w wr w' : World} {x : Tv} {y q : Wt} {V V' : Value} {O : List Wt} {z : Wt}
theorem RpA.start {w5 : World} {id bg : Int} {ws : List Wt} {A : Option Addr} {cap : Nat} (h : RpA w wr ⟨⟨id, bg, ws⟩, A, cap⟩ y) (hb : Below wr.heap.size wr w5) (hx : Box w' (w.heap.size + 1 + 1 + 1) 24 [.int .i64 id, .int .i64 bg, .slice none 0 0]) (hg : w5.grownBy w' (some (w.heap.size + 1 + 1 + 1))) (e : y = q := by rfl) :
    RpSt w w' ⟨⟨id, bg, ws⟩, A, cap⟩ q (.slice none 0 0) [] := by
  subst e
  have k := bthen h.below hb
  exact ⟨(h.b0.on hb).grown hg (by omega), (h.b1.on hb).grown hg (by omega), (h.b2.on hb).grown hg (by omega), hx, World.ownsRow_nil _ _ _ _, below_stored k hg k.size (by omega)⟩
theorem RpSt.on (h : RpSt w wr x q V O) (hb : Below wr.heap.size wr w') : RpSt w w' x q V O := ⟨h.b0.on hb, h.b1.on hb, h.b2.on hb, h.b3.on hb, own_below h.own hb, bthen h.below hb⟩
theorem RpSt.far (h : RpSt w wr x q V O) : ∀ b, V.ownBlock = some b → w.heap.size + 1 + 1 + 1 < b := fun b hb => by have := (h.own.lt b hb).1; omega
theorem RpSt.keep {b : Nat} {T : TypeId} {cs : List Value} (h : RpSt w wr x q V O) (hg : wr.grownBy w' V.ownBlock) (hx : Box wr b T cs) (hb : b ≤ w.heap.size + 1 + 1 + 1) : Box w' b T cs :=
  hx.same (hg.block _ hx.lt fun e => by have := h.far b e.symm; omega)
/-- the variable of what is answered, behind an append -/
theorem RpSt.boxes (h : RpSt w wr x q V O) (hg : wr.grownBy w' V.ownBlock) : Box w' (w.heap.size + 1 + 1 + 1) 24 [.int .i64 x.t.id, .int .i64 x.t.bg, V] := h.keep hg h.b3 (Nat.le_refl _)
theorem RpSt.box0 (h : RpSt w wr x q V O) (hg : wr.grownBy w' V.ownBlock) : Box w' w.heap.size 24 (tnc x) := h.keep hg h.b0 (by omega)
theorem RpSt.put (h : RpSt w wr x q V O) (hg : wr.grownBy w' V.ownBlock) (hown : w'.ownsRow (w.heap.size + 1 + 1 + 1 + 1) 28 34 V' (O.length + 1) (tws O ++ twc z)) :
    RpSt w (w'.setCell ⟨w.heap.size + 1 + 1 + 1, 2, none⟩ V') x q V' (O ++ [z]) := by
  have h3 := h.boxes hg
  have kb : Below w.heap.size w w' := h.below.grown hg h.below.size fun k hk => by have := h.far k hk; omega
  have hl : (O ++ [z]).length = O.length + 1 := by simp
  have ht : tws (O ++ [z]) = tws O ++ twc z := by rw [tws_append, tws_single]
  refine ⟨(h.box0 hg).grown set_grown (by omega), (h.keep hg h.b1 (by omega)).grown set_grown (by omega), (h.keep hg h.b2 (by omega)).grown set_grown (by omega), h3.set 2 _, ?_, below_stored kb set_grown kb.size (by omega)⟩
  rw [hl, ht]
  exact trow_kept hown set_grown fun b hb e => by
    injection e with e
    have := (hown.lt b hb).1
    omega
theorem RpSt.fin {w8 : World} {A : Option Addr} {c n : Nat} {cs : List Value} (h : RpSt w wr x q (.slice A n c) O) (hn : O.length = n) (hx : Box w8 (w.heap.size + 1 + 1) 24 cs) (hg : wr.grownBy w8 (some (w.heap.size + 1 + 1))) : w8.ownsRow w.heap.size 28 34 (.slice A O.length c) O.length (tws O) ∧ Below w.heap.size w w8 := by
  subst hn
  exact ⟨own_base0 (trow_kept h.own hg fun b hb e => by
    injection e with e
    have := (h.own.lt b hb).1
    omega) (by omega), below_stored h.below hg h.below.size (by omega)⟩
end
set_option maxRecDepth 100000 in
set_option maxHeartbeats 40000000 in
theorem rput_any18 (x : Tv) (y : Wt) (w : World) (hm : x.t.ws.length ≤ 10000) (hin : ∀ o ∈ x.t.ws, WIn o) (hy : WIn y) (hr : Rd w w.heap.size x.A (tws x.t.ws)) :
    Calls Try.prog 15 #[tval x, wval y] w fun e w' => ∃ z : Tv, e = .returned (tval z) ∧ z.t = ⟨x.t.id, x.t.bg, putR (clean y) x.t.ws⟩ ∧ w'.ownsRow w.heap.size 28 34 z.v z.t.ws.length (tws z.t.ws) ∧ Below w.heap.size w w' := by
  obtain ⟨m, hm34, hsz⟩ := big_size (P := Try.prog) (t := 28) (s := 34) (by kernel_rfl)
  have hm0 : ¬ m = 0 := by omega
  have HM := Lib.hid hm34
  obtain ⟨⟨id, bg, ws⟩, A, cap⟩ := x
  have hmn : ws.length ≤ 10000 := hm
  have HI := Lib.hid (And.intro (show ∀ o ∈ ws, WIn o from hin) (And.intro True.intro (show Rd w w.heap.size A (tws ws) from hr)))
  have HYi := Lib.hid hy
  have hci := clean_in hy
  obtain ⟨n, hn⟩ : ∃ n, ws.length = n := ⟨_, rfl⟩
  have HN := Lib.hid hn
  rw [hn] at hmn
  clear hm34 hin hr hm hn
  have HB2 := Lib.hid fun w' => build_wt2 w' y.b true
  generalize hq : clean y = q at *
  have HQ := Lib.hid (And.intro hq hci)
  cases htr : y.tr
  · have HTr := Lib.hid (And.intro htr (show y = q by rw [← hq, clean_no htr]))
    clear htr hq hci hy HB2
    go_enter Try.func15, Try.ntmps15
    go_wp2_with (first
      | ((with_reducible refine wpList_box_box _ (o := ⟨some 2, .box _ _, _, _, _, _⟩) rfl _ _ rfl (tnc ⟨⟨id, bg, ws⟩, A, cap⟩) rfl ?_); intro w1 x1 B1 s1)
      | ((with_reducible refine wpList_wt_box (o := ⟨some 3, .box _ _, _, _, _, _⟩) rfl _ rfl y rfl ?_); intro w2 x2 B2 s2; rw [s1] at x2 s2; rw [s1])
      | ((with_reducible refine wpList_alloc_box _ (o := ⟨some 4, .alloc _, _, _, _, _⟩) rfl _ rfl (tnc tz) zero_tn ?_); intro w3 x3 B3 s3; rw [s2] at x3 s3; rw [s2]; have HA : Hid (RpA w w3 ⟨⟨id, bg, ws⟩, A, cap⟩ y) := Lib.hid ⟨x1.on (bthen B2 B3), x2.on B3, x3, s3, bthen (bthen B1 B2) B3⟩; have y0 := HA.out.b1.wt.1; have y1 := HA.out.b1.wt.2; rw [HTr.out.1] at y1; obtain ⟨c0, c1, c2⟩ := tn_box HA.out.b0; clear x1 B1 s1 x2 B2 s2 x3 B3 s3)
      | ((with_reducible refine wpList_alloc_box _ (o := ⟨some 5, .alloc _, _, _, _, _⟩) rfl _ rfl (tnc tz) zero_tn ?_); intro w5 x5 B5 s5; rw [HA.out.sz] at x5; rw [HA.out.sz])
      | ((with_reducible refine wpList_store_var _ (o := ⟨none, .store _ (.tmp 5) _, _, _, _, _⟩) rfl 24 _ _ rfl (w.heap.size + 1 + 1 + 1) [.int .i64 id, .int .i64 bg, .slice none 0 0] (tnc tz) (rp_size _ _ _ _ _) (rp_len _ _ _ _ _) (rp_one _ _ _ _ _) rfl rfl x5 ?_); go_loud (intro w6 x6 hg6; have H6 : Hid (RpSt w w6 ⟨⟨id, bg, ws⟩, A, cap⟩ q (.slice none 0 0) []) := Lib.hid (HA.out.start B5 x6 hg6 HTr.out.2); clear x5 B5 s5 x6 hg6 c0 c1 c2 y0 y1))
      | fail)
    go_loopw [6, 7] (fun v6 v7 wr => ∃ (k : Nat) (O : List Wt) (laid : Bool) (V : Value), v6 = .bool laid ∧ v7 = .int .i64 k ∧ k ≤ n ∧ Hid ((ws.take k).foldl (putS q) ([], false) = (O, laid)) ∧ Hid (O.length ≤ 2 * k) ∧ Hid (RpSt w wr ⟨⟨id, bg, ws⟩, A, cap⟩ q V O)) (fun _ v7 _ => n - (intOf v7).toNat)
    case atStart => exact ⟨0, [], false, _, rfl, rfl, by omega, Lib.hid rfl, Lib.hid (Nat.le_refl _), H6⟩
    case round =>
      obtain ⟨k, O, laid, V, rfl, rfl, hk, HFl, HOk, Hr⟩ := hrel
      clear H6
      have HOL := Lib.hid (show O.length ≤ 20000 by have := HOk.out; omega)
      by_cases hlt : k < n
      · have hlk : ws[k]? = some (ws[k]'(by rw [HN.out]; exact hlt)) := List.getElem?_eq_getElem _
        obtain ⟨ad, rfl, _, _⟩ := wt_b (m := m) HI.out.2.2 HI.out.1 hlk HM.out
        have HE0 := Lib.hid fun w' (hb : Below w.heap.size w w') => rp_elt (m := m) (HI.out.2.2.below hb) HI.out.1 hlk HM.out
        have HLD := Lib.hid fun w' (hb : Below w.heap.size w w') => rp_load (m := m) (HI.out.2.2.below hb) HI.out.1 hlk HM.out
        have HFo := Lib.hid (show (ws.take (k + 1)).foldl (putS q) ([], false) = putS q (O, laid) (ws[k]'(by rw [HN.out]; exact hlt)) by
          rw [List.take_succ_eq_append_getElem (by rw [HN.out]; exact hlt), List.foldl_append, HFl.out]
          rfl)
        have hyi := HI.out.1 _ (List.getElem_mem (show k < ws.length by rw [HN.out]; exact hlt))
        generalize ws[k]'(by rw [HN.out]; exact hlt) = y at *
        clear hlk HFl
        have hki : (k : Int) < (n : Int) := by omega
        obtain ⟨LY, hLY⟩ : ∃ LY, LY = twc y := ⟨_, rfl⟩
        have HLY : Hid (LY.length = 34 ∧ (∀ u ∈ LY, u.oneCell' = true) ∧ LY = twc y) := Lib.hid ⟨by rw [hLY]; exact twc_len hyi, by rw [hLY]; exact twc_one y, hLY⟩
        rw [← hLY] at HLD
        clear hLY hyi
        cases laid
        · by_cases h1 : y.b < q.b
          · have hd1 : (decide (q.b ≤ y.b)) = false := decide_eq_false (by omega)
            have hd2 : (y.b != q.b) = true := by simp; omega
            have HF := Lib.hid (show putS q (O, false) y = (O ++ [y], false) by
              have a : ¬ q.b ≤ y.b := by omega
              have b : ¬ y.b = q.b := by omega
              simp [putS, a, b])
            clear h1
            obtain ⟨_, _, c2⟩ := tn_box Hr.out.b0
            simp only [HN.out] at c2
            have d0 := Hr.out.b1.wt.1
            have e0 := HE0.out wr Hr.out.below
            go_wp2_with fail
            go_quiet (fail)
            have H4 := Lib.hid (Hr.out.on (below_draws (Below.refl _ _) nq))
            clear c2 d0 e0
            generalize World.drewN wr nq = w4 at *
            obtain ⟨_, _, c2⟩ := tn_box H4.out.b0
            simp only [HN.out] at c2
            have d0 := H4.out.b1.wt.1
            have e0 := HE0.out w4 H4.out.below
            go_wp2_with fail
            go_quiet (fail)
            have H5 := Lib.hid (H4.out.on (below_draws (Below.refl _ _) nq))
            clear c2 d0 e0
            generalize World.drewN w4 nq = w5 at *
            obtain ⟨AB, cb, eW⟩ := own_slice H5.out.own
            subst eW
            have HSO := Lib.hid fun w' (hb : Below w5.heap.size w5 w') => (⟨(rp_box (H5.out.on hb).b3).2.2, (tn_box (H5.out.on hb).b0).2.2.trans (by rw [← HN.out]), HLD.out w' (bthen H5.out.below hb)⟩ : w'.cell? ⟨(w.heap.size + 1 + 1 + 1), 2, none⟩ = some (.slice AB O.length cb) ∧ w'.cell? ⟨w.heap.size, 2, none⟩ = some (.slice (some ad) n cap) ∧ (loadCellsFrom (ad.add (k * m)) 0 m #[]).run Try.prog w' = .ok LY.toArray w')
            have HSd := Lib.hid (HSO.out w5.drew (Below.refl _ _).drew)
            go_wp2_with fail
            refine wp_region_heldT (fun w' => w'.cell? ⟨(w.heap.size + 1 + 1 + 1), 2, none⟩ = some (.slice AB O.length cb) ∧ w'.cell? ⟨w.heap.size, 2, none⟩ = some (.slice (some ad) n cap) ∧ (loadCellsFrom (ad.add (k * m)) 0 m #[]).run Try.prog w' = .ok LY.toArray w') 9 (by kernel_rfl) (by kernel_rfl) ?_
            refine heldT_take (i := 0) (oi := ⟨some 53, .fieldAddr _ _ _, _, _, _, _⟩) (v := ?vb0) rfl (by kernel_rfl) (by decide) (by kernel_rfl) (by kernel_rfl) (fun _ _ _ h => h) (Or.inl ⟨by rfl, ?hyb0⟩) HSd.out ?restb0
            case hyb0 =>
              intro w hSw
              obtain ⟨hS0, hS1, hS2⟩ := hSw
              go_simp
              try with_reducible rfl
            try simp only [Act.put, List.setIfInBounds_toArray, List.set_cons_zero, List.set_cons_succ]
            refine heldT_take (i := 1) (oi := ⟨some 54, .load _ _, _, _, _, _⟩) (v := ?vb1) rfl (by kernel_rfl) (by decide) (by kernel_rfl) (by kernel_rfl) (fun _ _ _ h => h) (Or.inl ⟨by rfl, ?hyb1⟩) HSd.out ?restb1
            case hyb1 =>
              intro w hSw
              obtain ⟨hS0, hS1, hS2⟩ := hSw
              go_simp
              try with_reducible rfl
            try simp only [Act.put, List.setIfInBounds_toArray, List.set_cons_zero, List.set_cons_succ]
            refine heldT_take (i := 2) (oi := ⟨some 55, .fieldAddr _ _ _, _, _, _, _⟩) (v := ?vb2) rfl (by kernel_rfl) (by decide) (by kernel_rfl) (by kernel_rfl) (fun _ _ _ h => h) (Or.inl ⟨by rfl, ?hyb2⟩) HSd.out ?restb2
            case hyb2 =>
              intro w hSw
              obtain ⟨hS0, hS1, hS2⟩ := hSw
              go_simp
              try with_reducible rfl
            try simp only [Act.put, List.setIfInBounds_toArray, List.set_cons_zero, List.set_cons_succ]
            refine heldT_take (i := 3) (oi := ⟨some 56, .load _ _, _, _, _, _⟩) (v := ?vb3) rfl (by kernel_rfl) (by decide) (by kernel_rfl) (by kernel_rfl) (fun _ _ _ h => h) (Or.inl ⟨by rfl, ?hyb3⟩) HSd.out ?restb3
            case hyb3 =>
              intro w hSw
              obtain ⟨hS0, hS1, hS2⟩ := hSw
              go_simp
              try with_reducible rfl
            try simp only [Act.put, List.setIfInBounds_toArray, List.set_cons_zero, List.set_cons_succ]
            refine heldT_take (i := 4) (oi := ⟨some 57, .move _, _, _, _, _⟩) (v := ?vb4) rfl (by kernel_rfl) (by decide) (by kernel_rfl) (by kernel_rfl) (fun _ _ _ h => h) (Or.inl ⟨by rfl, ?hyb4⟩) HSd.out ?restb4
            case hyb4 =>
              intro w hSw
              obtain ⟨hS0, hS1, hS2⟩ := hSw
              go_simp
              try with_reducible rfl
            try simp only [Act.put, List.setIfInBounds_toArray, List.set_cons_zero, List.set_cons_succ]
            refine heldT_take (i := 5) (oi := ⟨some 58, .indexAddr _ _ _, _, _, _, _⟩) (v := ?vb5) rfl (by kernel_rfl) (by decide) (by kernel_rfl) (by kernel_rfl) (fun _ _ _ h => h) (Or.inl ⟨by rfl, ?hyb5⟩) HSd.out ?restb5
            case hyb5 =>
              intro w hSw
              obtain ⟨hS0, hS1, hS2⟩ := hSw
              go_simp
              try with_reducible rfl
            try simp only [Act.put, List.setIfInBounds_toArray, List.set_cons_zero, List.set_cons_succ]
            refine heldT_take (i := 6) (oi := ⟨some 59, .load _ _, _, _, _, _⟩) (v := ?vb6) rfl (by kernel_rfl) (by decide) (by kernel_rfl) (by kernel_rfl) (fun _ _ _ h => h) (Or.inl ⟨by rfl, ?hyb6⟩) HSd.out ?restb6
            case hyb6 =>
              intro w hSw
              obtain ⟨hS0, hS1, hS2⟩ := hSw
              go_simp
              try with_reducible rfl
            try simp only [Act.put, List.setIfInBounds_toArray, List.set_cons_zero, List.set_cons_succ]
            refine heldT_one (i := 7) (o := ⟨some 60, .buildSlice _ _ _, _, _, _, _⟩) rfl (by kernel_rfl) (by decide) (fun K hK => ?_)
            refine step_slice_one _ rfl _ _ rfl 28 _ 34 48 elemW (by decide) LY HLY.out.1 rfl ?_
            refine hK.out _ _ (HSO.out _ ((Below.refl _ _).drew.alloc (Nat.le_refl _) _)) ?_
            clear hK K
            try simp only [Act.put, List.setIfInBounds_toArray, List.set_cons_zero, List.set_cons_succ]
            refine heldT_one (i := 8) (o := ⟨some 61, .call _, _, _, _, _⟩) rfl (by kernel_rfl) (by decide) (fun K hK => ?_)
            refine step_append_rd _ rfl _ _ _ rfl (w.heap.size + 1 + 1 + 1 + 1) 28 _ 34 48 elemW (.slice AB O.length cb) O.length (tws O) rfl (own_below H5.out.own ((Below.refl _ _).drew.alloc (Nat.le_refl _) _)) _ (some ⟨w5.heap.size, 0, none⟩) 1 1 LY rfl (by rw [HLY.out.1]) (rd_new w5.drew LY 28 (0, 0)) HLY.out.2.1 (by have := HOL.out; simp only [maxLen]; omega) (by have := HOL.out; omega) (by have := H5.out.b3.lt; simp; omega) ?_
            intro v9 w9 hown9 hg9
            obtain ⟨A9, c9, rfl⟩ := own_slice hown9
            have Hd := H5.out.on ((Below.refl _ _).drew.alloc (Nat.le_refl _) (.cells LY.toArray 28))
            have hx9 := Hd.boxes hg9
            have HS9 : Hid (w9.cell? ⟨(w.heap.size + 1 + 1 + 1), 2, none⟩ = some (.slice AB O.length cb) ∧ w9.cell? ⟨w.heap.size, 2, none⟩ = some (.slice (some ad) n cap) ∧ (loadCellsFrom (ad.add (k * m)) 0 m #[]).run Try.prog w9 = .ok LY.toArray w9) := Lib.hid ⟨(rp_box hx9).2.2, (tn_box (Hd.box0 hg9)).2.2.trans (by rw [← HN.out]), HLD.out w9 (Hd.below.grown hg9 Hd.below.size fun b hb => by have := (Hd.own.lt b hb).1; omega)⟩
            obtain ⟨_, _, m29⟩ := rp_box hx9
            have f29 := hx9.frozen 2
            have H6 := Lib.hid (Hd.put hg9 (by rw [HLY.out.2.2] at hown9; exact hown9))
            clear hx9 hown9 hg9 Hd HSd
            refine hK.out _ _ HS9.out ?_
            clear hK K
            try simp only [Act.put, List.setIfInBounds_toArray, List.set_cons_zero, List.set_cons_succ]
            refine heldT_done (by kernel_rfl) ?_
            clear HS9
            go_wp2
            go_roundw
            case rel => exact ⟨k + 1, O ++ [y], false, _, rfl, by go_num, by omega, Lib.hid (HFo.out.trans HF.out), Lib.hid (by have := HOk.out; simp; omega), H6⟩
            case measure => first | (simp [intOf]; done) | (simp [intOf]; omega)
          · have hd1 : (decide (q.b ≤ y.b)) = true := decide_eq_true (by omega)
            by_cases h2 : y.b = q.b
            · have hd2 : (y.b != q.b) = false := by simp [h2]
              have HF := Lib.hid (show putS q (O, false) y = (O ++ [q], true) by simp [putS, h2])
              clear h1 h2
              obtain ⟨_, _, c2⟩ := tn_box Hr.out.b0
              simp only [HN.out] at c2
              have d0 := Hr.out.b1.wt.1
              have e0 := HE0.out wr Hr.out.below
              go_wp2_with fail
              go_quiet (fail)
              have H4 := Lib.hid (Hr.out.on (below_draws (Below.refl _ _) nq))
              clear c2 d0 e0
              generalize World.drewN wr nq = w4 at *
              have HOW := Lib.hid H4.out.own
              have hldq := H4.out.b1.wtAll HQ.out.2 HM.out
              have hq34 := Lib.hid (twc_len HQ.out.2)
              obtain ⟨_, _, m2⟩ := rp_box H4.out.b3
              obtain ⟨AA, cc, eV⟩ := own_slice H4.out.own
              subst eV
              go_wp2_with (first
                | ((with_reducible refine wpList_slice_one _ (o := ⟨some 41, .buildSlice _ _ _, _, _, _, _⟩) rfl 22 28 _ rfl _ 34 48 elemW (by decide) (twc q) hq34.out rfl ?_))
                | (at_builtin; go_loud (refine wpList_append_tell _ rfl _ _ _ rfl (w.heap.size + 1 + 1 + 1 + 1) 28 _ 34 48 elemW (.slice AA O.length cc) _ _ rfl (twc q) rfl HOW.out hq34.out (twc_one q) (by have := HOL.out; simp only [maxLen]; omega) (by have := HOL.out; omega) (by have := H4.out.b3.lt; omega) ?_); go_loud (intro v5 w50 hown5 hg5 _; obtain ⟨A5, c5, rfl⟩ := own_slice hown5; have hx5 := H4.out.boxes hg5; obtain ⟨_, _, m25⟩ := rp_box hx5; have f25 := hx5.frozen 2; have H5 := Lib.hid (H4.out.put hg5 hown5); clear hx5 hown5 hg5 m2 hldq HOW))
                | fail)
              clear m25 f25
              generalize World.setCell w50 ⟨(w.heap.size + 1 + 1 + 1), 2, none⟩ (.slice A5 (O.length + 1) c5) = w5 at *
              obtain ⟨_, _, c2⟩ := tn_box H5.out.b0
              simp only [HN.out] at c2
              have d0 := H5.out.b1.wt.1
              have e0 := HE0.out w5 H5.out.below
              go_quiet (fail)
              have H6 := Lib.hid (H5.out.on (below_draws (Below.refl _ _) nq))
              clear c2 d0 e0
              generalize World.drewN w5 nq = w6 at *
              go_wp2
              go_roundw
              case rel => exact ⟨k + 1, O ++ [q], true, _, rfl, by go_num, by omega, Lib.hid (HFo.out.trans HF.out), Lib.hid (by have := HOk.out; simp; omega), H6⟩
              case measure => first | (simp [intOf]; done) | (simp [intOf]; omega)
            · have hd2 : (y.b != q.b) = true := by simpa using h2
              have HF := Lib.hid (show putS q (O, false) y = (O ++ [q] ++ [y], true) by
                have a : q.b ≤ y.b := by omega
                simp [putS, a, h2])
              clear h1 h2
              obtain ⟨_, _, c2⟩ := tn_box Hr.out.b0
              simp only [HN.out] at c2
              have d0 := Hr.out.b1.wt.1
              have e0 := HE0.out wr Hr.out.below
              go_wp2_with fail
              go_quiet (fail)
              have H4 := Lib.hid (Hr.out.on (below_draws (Below.refl _ _) nq))
              clear c2 d0 e0
              generalize World.drewN wr nq = w4 at *
              have HOW := Lib.hid H4.out.own
              have hldq := H4.out.b1.wtAll HQ.out.2 HM.out
              have hq34 := Lib.hid (twc_len HQ.out.2)
              obtain ⟨_, _, m2⟩ := rp_box H4.out.b3
              obtain ⟨AA, cc, eV⟩ := own_slice H4.out.own
              subst eV
              go_wp2_with (first
                | ((with_reducible refine wpList_slice_one _ (o := ⟨some 41, .buildSlice _ _ _, _, _, _, _⟩) rfl 22 28 _ rfl _ 34 48 elemW (by decide) (twc q) hq34.out rfl ?_))
                | (at_builtin; go_loud (refine wpList_append_tell _ rfl _ _ _ rfl (w.heap.size + 1 + 1 + 1 + 1) 28 _ 34 48 elemW (.slice AA O.length cc) _ _ rfl (twc q) rfl HOW.out hq34.out (twc_one q) (by have := HOL.out; simp only [maxLen]; omega) (by have := HOL.out; omega) (by have := H4.out.b3.lt; omega) ?_); go_loud (intro v5 w50 hown5 hg5 _; obtain ⟨A5, c5, rfl⟩ := own_slice hown5; have hx5 := H4.out.boxes hg5; obtain ⟨_, _, m25⟩ := rp_box hx5; have f25 := hx5.frozen 2; have H5 := Lib.hid (H4.out.put hg5 hown5); clear hx5 hown5 hg5 m2 hldq HOW))
                | fail)
              clear m25 f25
              generalize World.setCell w50 ⟨(w.heap.size + 1 + 1 + 1), 2, none⟩ (.slice A5 (O.length + 1) c5) = w5 at *
              obtain ⟨_, _, c2⟩ := tn_box H5.out.b0
              simp only [HN.out] at c2
              have d0 := H5.out.b1.wt.1
              have e0 := HE0.out w5 H5.out.below
              go_quiet (fail)
              have H6 := Lib.hid (H5.out.on (below_draws (Below.refl _ _) nq))
              clear c2 d0 e0
              generalize World.drewN w5 nq = w6 at *
              obtain ⟨O2, hO2⟩ : ∃ O2, O2 = O ++ [q] := ⟨_, rfl⟩
              have hl2 : O.length + 1 = O2.length := by rw [hO2]; simp
              have HOL := Lib.hid (show O2.length ≤ 20001 by have := HOL.out; omega)
              have HOk := Lib.hid (show O2.length ≤ 2 * k + 1 by have := HOk.out; omega)
              rw [← hO2] at HF H6
              rw [hl2] at H6 ⊢
              clear hO2 hl2
              have HSO := Lib.hid fun w' (hb : Below w6.heap.size w6 w') => (⟨(rp_box (H6.out.on hb).b3).2.2, (tn_box (H6.out.on hb).b0).2.2.trans (by rw [← HN.out]), HLD.out w' (bthen H6.out.below hb)⟩ : w'.cell? ⟨(w.heap.size + 1 + 1 + 1), 2, none⟩ = some (.slice A5 O2.length c5) ∧ w'.cell? ⟨w.heap.size, 2, none⟩ = some (.slice (some ad) n cap) ∧ (loadCellsFrom (ad.add (k * m)) 0 m #[]).run Try.prog w' = .ok LY.toArray w')
              have HSd := Lib.hid (HSO.out w6.drew (Below.refl _ _).drew)
              go_wp2_with fail
              refine wp_region_heldT (fun w' => w'.cell? ⟨(w.heap.size + 1 + 1 + 1), 2, none⟩ = some (.slice A5 O2.length c5) ∧ w'.cell? ⟨w.heap.size, 2, none⟩ = some (.slice (some ad) n cap) ∧ (loadCellsFrom (ad.add (k * m)) 0 m #[]).run Try.prog w' = .ok LY.toArray w') 9 (by kernel_rfl) (by kernel_rfl) ?_
              refine heldT_take (i := 0) (oi := ⟨some 53, .fieldAddr _ _ _, _, _, _, _⟩) (v := ?vc0) rfl (by kernel_rfl) (by decide) (by kernel_rfl) (by kernel_rfl) (fun _ _ _ h => h) (Or.inl ⟨by rfl, ?hyc0⟩) HSd.out ?restc0
              case hyc0 =>
                intro w hSw
                obtain ⟨hS0, hS1, hS2⟩ := hSw
                go_simp
                try with_reducible rfl
              try simp only [Act.put, List.setIfInBounds_toArray, List.set_cons_zero, List.set_cons_succ]
              refine heldT_take (i := 1) (oi := ⟨some 54, .load _ _, _, _, _, _⟩) (v := ?vc1) rfl (by kernel_rfl) (by decide) (by kernel_rfl) (by kernel_rfl) (fun _ _ _ h => h) (Or.inl ⟨by rfl, ?hyc1⟩) HSd.out ?restc1
              case hyc1 =>
                intro w hSw
                obtain ⟨hS0, hS1, hS2⟩ := hSw
                go_simp
                try with_reducible rfl
              try simp only [Act.put, List.setIfInBounds_toArray, List.set_cons_zero, List.set_cons_succ]
              refine heldT_take (i := 2) (oi := ⟨some 55, .fieldAddr _ _ _, _, _, _, _⟩) (v := ?vc2) rfl (by kernel_rfl) (by decide) (by kernel_rfl) (by kernel_rfl) (fun _ _ _ h => h) (Or.inl ⟨by rfl, ?hyc2⟩) HSd.out ?restc2
              case hyc2 =>
                intro w hSw
                obtain ⟨hS0, hS1, hS2⟩ := hSw
                go_simp
                try with_reducible rfl
              try simp only [Act.put, List.setIfInBounds_toArray, List.set_cons_zero, List.set_cons_succ]
              refine heldT_take (i := 3) (oi := ⟨some 56, .load _ _, _, _, _, _⟩) (v := ?vc3) rfl (by kernel_rfl) (by decide) (by kernel_rfl) (by kernel_rfl) (fun _ _ _ h => h) (Or.inl ⟨by rfl, ?hyc3⟩) HSd.out ?restc3
              case hyc3 =>
                intro w hSw
                obtain ⟨hS0, hS1, hS2⟩ := hSw
                go_simp
                try with_reducible rfl
              try simp only [Act.put, List.setIfInBounds_toArray, List.set_cons_zero, List.set_cons_succ]
              refine heldT_take (i := 4) (oi := ⟨some 57, .move _, _, _, _, _⟩) (v := ?vc4) rfl (by kernel_rfl) (by decide) (by kernel_rfl) (by kernel_rfl) (fun _ _ _ h => h) (Or.inl ⟨by rfl, ?hyc4⟩) HSd.out ?restc4
              case hyc4 =>
                intro w hSw
                obtain ⟨hS0, hS1, hS2⟩ := hSw
                go_simp
                try with_reducible rfl
              try simp only [Act.put, List.setIfInBounds_toArray, List.set_cons_zero, List.set_cons_succ]
              refine heldT_take (i := 5) (oi := ⟨some 58, .indexAddr _ _ _, _, _, _, _⟩) (v := ?vc5) rfl (by kernel_rfl) (by decide) (by kernel_rfl) (by kernel_rfl) (fun _ _ _ h => h) (Or.inl ⟨by rfl, ?hyc5⟩) HSd.out ?restc5
              case hyc5 =>
                intro w hSw
                obtain ⟨hS0, hS1, hS2⟩ := hSw
                go_simp
                try with_reducible rfl
              try simp only [Act.put, List.setIfInBounds_toArray, List.set_cons_zero, List.set_cons_succ]
              refine heldT_take (i := 6) (oi := ⟨some 59, .load _ _, _, _, _, _⟩) (v := ?vc6) rfl (by kernel_rfl) (by decide) (by kernel_rfl) (by kernel_rfl) (fun _ _ _ h => h) (Or.inl ⟨by rfl, ?hyc6⟩) HSd.out ?restc6
              case hyc6 =>
                intro w hSw
                obtain ⟨hS0, hS1, hS2⟩ := hSw
                go_simp
                try with_reducible rfl
              try simp only [Act.put, List.setIfInBounds_toArray, List.set_cons_zero, List.set_cons_succ]
              refine heldT_one (i := 7) (o := ⟨some 60, .buildSlice _ _ _, _, _, _, _⟩) rfl (by kernel_rfl) (by decide) (fun K hK => ?_)
              refine step_slice_one _ rfl _ _ rfl 28 _ 34 48 elemW (by decide) LY HLY.out.1 rfl ?_
              refine hK.out _ _ (HSO.out _ ((Below.refl _ _).drew.alloc (Nat.le_refl _) _)) ?_
              clear hK K
              try simp only [Act.put, List.setIfInBounds_toArray, List.set_cons_zero, List.set_cons_succ]
              refine heldT_one (i := 8) (o := ⟨some 61, .call _, _, _, _, _⟩) rfl (by kernel_rfl) (by decide) (fun K hK => ?_)
              refine step_append_rd _ rfl _ _ _ rfl (w.heap.size + 1 + 1 + 1 + 1) 28 _ 34 48 elemW (.slice A5 O2.length c5) O2.length (tws O2) rfl (own_below H6.out.own ((Below.refl _ _).drew.alloc (Nat.le_refl _) _)) _ (some ⟨w6.heap.size, 0, none⟩) 1 1 LY rfl (by rw [HLY.out.1]) (rd_new w6.drew LY 28 (0, 0)) HLY.out.2.1 (by have := HOL.out; simp only [maxLen]; omega) (by have := HOL.out; omega) (by have := H6.out.b3.lt; simp; omega) ?_
              intro v9 w9 hown9 hg9
              obtain ⟨A9, c9, rfl⟩ := own_slice hown9
              have Hd := H6.out.on ((Below.refl _ _).drew.alloc (Nat.le_refl _) (.cells LY.toArray 28))
              have hx9 := Hd.boxes hg9
              have HS9 : Hid (w9.cell? ⟨(w.heap.size + 1 + 1 + 1), 2, none⟩ = some (.slice A5 O2.length c5) ∧ w9.cell? ⟨w.heap.size, 2, none⟩ = some (.slice (some ad) n cap) ∧ (loadCellsFrom (ad.add (k * m)) 0 m #[]).run Try.prog w9 = .ok LY.toArray w9) := Lib.hid ⟨(rp_box hx9).2.2, (tn_box (Hd.box0 hg9)).2.2.trans (by rw [← HN.out]), HLD.out w9 (Hd.below.grown hg9 Hd.below.size fun b hb => by have := (Hd.own.lt b hb).1; omega)⟩
              obtain ⟨_, _, m29⟩ := rp_box hx9
              have f29 := hx9.frozen 2
              have H7 := Lib.hid (Hd.put hg9 (by rw [HLY.out.2.2] at hown9; exact hown9))
              clear hx9 hown9 hg9 Hd HSd
              refine hK.out _ _ HS9.out ?_
              clear hK K
              try simp only [Act.put, List.setIfInBounds_toArray, List.set_cons_zero, List.set_cons_succ]
              refine heldT_done (by kernel_rfl) ?_
              clear HS9
              go_wp2
              go_roundw
              case rel => exact ⟨k + 1, O2 ++ [y], true, _, rfl, by go_num, by omega, Lib.hid (HFo.out.trans HF.out), Lib.hid (by have := HOk.out; simp; omega), H7⟩
              case measure => first | (simp [intOf]; done) | (simp [intOf]; omega)
        · by_cases h2 : y.b = q.b
          · have hd2 : (y.b != q.b) = false := by simp [h2]
            have HF := Lib.hid (show putS q (O, true) y = (O, true) by simp [putS, h2])
            clear h2
            obtain ⟨_, _, c2⟩ := tn_box Hr.out.b0
            simp only [HN.out] at c2
            have d0 := Hr.out.b1.wt.1
            have e0 := HE0.out wr Hr.out.below
            go_wp2_with fail
            go_quiet (fail)
            have H4 := Lib.hid (Hr.out.on (below_draws (Below.refl _ _) nq))
            clear c2 d0 e0
            generalize World.drewN wr nq = w4 at *
            obtain ⟨_, _, c2⟩ := tn_box H4.out.b0
            simp only [HN.out] at c2
            have d0 := H4.out.b1.wt.1
            have e0 := HE0.out w4 H4.out.below
            go_wp2_with fail
            go_quiet (fail)
            have H5 := Lib.hid (H4.out.on (below_draws (Below.refl _ _) nq))
            clear c2 d0 e0
            generalize World.drewN w4 nq = w5 at *
            go_wp2
            go_roundw
            case rel => exact ⟨k + 1, O, true, _, rfl, by go_num, by omega, Lib.hid (HFo.out.trans HF.out), Lib.hid (by have := HOk.out; simp; omega), H5⟩
            case measure => first | (simp [intOf]; done) | (simp [intOf]; omega)
          · have hd2 : (y.b != q.b) = true := by simpa using h2
            have HF := Lib.hid (show putS q (O, true) y = (O ++ [y], true) by simp [putS, h2])
            clear h2
            obtain ⟨_, _, c2⟩ := tn_box Hr.out.b0
            simp only [HN.out] at c2
            have d0 := Hr.out.b1.wt.1
            have e0 := HE0.out wr Hr.out.below
            go_wp2_with fail
            go_quiet (fail)
            have H4 := Lib.hid (Hr.out.on (below_draws (Below.refl _ _) nq))
            clear c2 d0 e0
            generalize World.drewN wr nq = w4 at *
            obtain ⟨_, _, c2⟩ := tn_box H4.out.b0
            simp only [HN.out] at c2
            have d0 := H4.out.b1.wt.1
            have e0 := HE0.out w4 H4.out.below
            go_wp2_with fail
            go_quiet (fail)
            have H5 := Lib.hid (H4.out.on (below_draws (Below.refl _ _) nq))
            clear c2 d0 e0
            generalize World.drewN w4 nq = w5 at *
            obtain ⟨AB, cb, eW⟩ := own_slice H5.out.own
            subst eW
            have HSO := Lib.hid fun w' (hb : Below w5.heap.size w5 w') => (⟨(rp_box (H5.out.on hb).b3).2.2, (tn_box (H5.out.on hb).b0).2.2.trans (by rw [← HN.out]), HLD.out w' (bthen H5.out.below hb)⟩ : w'.cell? ⟨(w.heap.size + 1 + 1 + 1), 2, none⟩ = some (.slice AB O.length cb) ∧ w'.cell? ⟨w.heap.size, 2, none⟩ = some (.slice (some ad) n cap) ∧ (loadCellsFrom (ad.add (k * m)) 0 m #[]).run Try.prog w' = .ok LY.toArray w')
            have HSd := Lib.hid (HSO.out w5.drew (Below.refl _ _).drew)
            go_wp2_with fail
            refine wp_region_heldT (fun w' => w'.cell? ⟨(w.heap.size + 1 + 1 + 1), 2, none⟩ = some (.slice AB O.length cb) ∧ w'.cell? ⟨w.heap.size, 2, none⟩ = some (.slice (some ad) n cap) ∧ (loadCellsFrom (ad.add (k * m)) 0 m #[]).run Try.prog w' = .ok LY.toArray w') 9 (by kernel_rfl) (by kernel_rfl) ?_
            refine heldT_take (i := 0) (oi := ⟨some 53, .fieldAddr _ _ _, _, _, _, _⟩) (v := ?vd0) rfl (by kernel_rfl) (by decide) (by kernel_rfl) (by kernel_rfl) (fun _ _ _ h => h) (Or.inl ⟨by rfl, ?hyd0⟩) HSd.out ?restd0
            case hyd0 =>
              intro w hSw
              obtain ⟨hS0, hS1, hS2⟩ := hSw
              go_simp
              try with_reducible rfl
            try simp only [Act.put, List.setIfInBounds_toArray, List.set_cons_zero, List.set_cons_succ]
            refine heldT_take (i := 1) (oi := ⟨some 54, .load _ _, _, _, _, _⟩) (v := ?vd1) rfl (by kernel_rfl) (by decide) (by kernel_rfl) (by kernel_rfl) (fun _ _ _ h => h) (Or.inl ⟨by rfl, ?hyd1⟩) HSd.out ?restd1
            case hyd1 =>
              intro w hSw
              obtain ⟨hS0, hS1, hS2⟩ := hSw
              go_simp
              try with_reducible rfl
            try simp only [Act.put, List.setIfInBounds_toArray, List.set_cons_zero, List.set_cons_succ]
            refine heldT_take (i := 2) (oi := ⟨some 55, .fieldAddr _ _ _, _, _, _, _⟩) (v := ?vd2) rfl (by kernel_rfl) (by decide) (by kernel_rfl) (by kernel_rfl) (fun _ _ _ h => h) (Or.inl ⟨by rfl, ?hyd2⟩) HSd.out ?restd2
            case hyd2 =>
              intro w hSw
              obtain ⟨hS0, hS1, hS2⟩ := hSw
              go_simp
              try with_reducible rfl
            try simp only [Act.put, List.setIfInBounds_toArray, List.set_cons_zero, List.set_cons_succ]
            refine heldT_take (i := 3) (oi := ⟨some 56, .load _ _, _, _, _, _⟩) (v := ?vd3) rfl (by kernel_rfl) (by decide) (by kernel_rfl) (by kernel_rfl) (fun _ _ _ h => h) (Or.inl ⟨by rfl, ?hyd3⟩) HSd.out ?restd3
            case hyd3 =>
              intro w hSw
              obtain ⟨hS0, hS1, hS2⟩ := hSw
              go_simp
              try with_reducible rfl
            try simp only [Act.put, List.setIfInBounds_toArray, List.set_cons_zero, List.set_cons_succ]
            refine heldT_take (i := 4) (oi := ⟨some 57, .move _, _, _, _, _⟩) (v := ?vd4) rfl (by kernel_rfl) (by decide) (by kernel_rfl) (by kernel_rfl) (fun _ _ _ h => h) (Or.inl ⟨by rfl, ?hyd4⟩) HSd.out ?restd4
            case hyd4 =>
              intro w hSw
              obtain ⟨hS0, hS1, hS2⟩ := hSw
              go_simp
              try with_reducible rfl
            try simp only [Act.put, List.setIfInBounds_toArray, List.set_cons_zero, List.set_cons_succ]
            refine heldT_take (i := 5) (oi := ⟨some 58, .indexAddr _ _ _, _, _, _, _⟩) (v := ?vd5) rfl (by kernel_rfl) (by decide) (by kernel_rfl) (by kernel_rfl) (fun _ _ _ h => h) (Or.inl ⟨by rfl, ?hyd5⟩) HSd.out ?restd5
            case hyd5 =>
              intro w hSw
              obtain ⟨hS0, hS1, hS2⟩ := hSw
              go_simp
              try with_reducible rfl
            try simp only [Act.put, List.setIfInBounds_toArray, List.set_cons_zero, List.set_cons_succ]
            refine heldT_take (i := 6) (oi := ⟨some 59, .load _ _, _, _, _, _⟩) (v := ?vd6) rfl (by kernel_rfl) (by decide) (by kernel_rfl) (by kernel_rfl) (fun _ _ _ h => h) (Or.inl ⟨by rfl, ?hyd6⟩) HSd.out ?restd6
            case hyd6 =>
              intro w hSw
              obtain ⟨hS0, hS1, hS2⟩ := hSw
              go_simp
              try with_reducible rfl
            try simp only [Act.put, List.setIfInBounds_toArray, List.set_cons_zero, List.set_cons_succ]
            refine heldT_one (i := 7) (o := ⟨some 60, .buildSlice _ _ _, _, _, _, _⟩) rfl (by kernel_rfl) (by decide) (fun K hK => ?_)
            refine step_slice_one _ rfl _ _ rfl 28 _ 34 48 elemW (by decide) LY HLY.out.1 rfl ?_
            refine hK.out _ _ (HSO.out _ ((Below.refl _ _).drew.alloc (Nat.le_refl _) _)) ?_
            clear hK K
            try simp only [Act.put, List.setIfInBounds_toArray, List.set_cons_zero, List.set_cons_succ]
            refine heldT_one (i := 8) (o := ⟨some 61, .call _, _, _, _, _⟩) rfl (by kernel_rfl) (by decide) (fun K hK => ?_)
            refine step_append_rd _ rfl _ _ _ rfl (w.heap.size + 1 + 1 + 1 + 1) 28 _ 34 48 elemW (.slice AB O.length cb) O.length (tws O) rfl (own_below H5.out.own ((Below.refl _ _).drew.alloc (Nat.le_refl _) _)) _ (some ⟨w5.heap.size, 0, none⟩) 1 1 LY rfl (by rw [HLY.out.1]) (rd_new w5.drew LY 28 (0, 0)) HLY.out.2.1 (by have := HOL.out; simp only [maxLen]; omega) (by have := HOL.out; omega) (by have := H5.out.b3.lt; simp; omega) ?_
            intro v9 w9 hown9 hg9
            obtain ⟨A9, c9, rfl⟩ := own_slice hown9
            have Hd := H5.out.on ((Below.refl _ _).drew.alloc (Nat.le_refl _) (.cells LY.toArray 28))
            have hx9 := Hd.boxes hg9
            have HS9 : Hid (w9.cell? ⟨(w.heap.size + 1 + 1 + 1), 2, none⟩ = some (.slice AB O.length cb) ∧ w9.cell? ⟨w.heap.size, 2, none⟩ = some (.slice (some ad) n cap) ∧ (loadCellsFrom (ad.add (k * m)) 0 m #[]).run Try.prog w9 = .ok LY.toArray w9) := Lib.hid ⟨(rp_box hx9).2.2, (tn_box (Hd.box0 hg9)).2.2.trans (by rw [← HN.out]), HLD.out w9 (Hd.below.grown hg9 Hd.below.size fun b hb => by have := (Hd.own.lt b hb).1; omega)⟩
            obtain ⟨_, _, m29⟩ := rp_box hx9
            have f29 := hx9.frozen 2
            have H6 := Lib.hid (Hd.put hg9 (by rw [HLY.out.2.2] at hown9; exact hown9))
            clear hx9 hown9 hg9 Hd HSd
            refine hK.out _ _ HS9.out ?_
            clear hK K
            try simp only [Act.put, List.setIfInBounds_toArray, List.set_cons_zero, List.set_cons_succ]
            refine heldT_done (by kernel_rfl) ?_
            clear HS9
            go_wp2
            go_roundw
            case rel => exact ⟨k + 1, O ++ [y], true, _, rfl, by go_num, by omega, Lib.hid (HFo.out.trans HF.out), Lib.hid (by have := HOk.out; simp; omega), H6⟩
            case measure => first | (simp [intOf]; done) | (simp [intOf]; omega)
      · obtain rfl : n = k := by omega
        have HAll := Lib.hid (show ws.foldl (putS q) ([], false) = (O, laid) by
          have h := HFl.out
          rwa [List.take_of_length_le (by rw [HN.out]; exact Nat.le_refl _)] at h)
        obtain ⟨_, _, c2⟩ := tn_box Hr.out.b0
        simp only [HN.out] at c2
        cases laid
        · have HR := Lib.hid (show putR q ws = O ++ [q] by unfold putR; rw [HAll.out]; rfl)
          obtain ⟨p0, p1, _⟩ := rp_box Hr.out.b3
          have HOW := Lib.hid Hr.out.own
          have hldq := Hr.out.b1.wtAll HQ.out.2 HM.out
          have hq34 := Lib.hid (twc_len HQ.out.2)
          obtain ⟨_, _, m2⟩ := rp_box Hr.out.b3
          obtain ⟨AA, cc, eV⟩ := own_slice Hr.out.own
          subst eV
          go_wp2_with (first
            | ((with_reducible refine wpList_slice_one _ (o := ⟨some 68, .buildSlice _ _ _, _, _, _, _⟩) rfl 22 28 _ rfl _ 34 48 elemW (by decide) (twc q) hq34.out rfl ?_))
            | (at_builtin; go_loud (refine wpList_append_tell _ rfl _ _ _ rfl (w.heap.size + 1 + 1 + 1 + 1) 28 _ 34 48 elemW (.slice AA O.length cc) _ _ rfl (twc q) rfl HOW.out hq34.out (twc_one q) (by have := HOL.out; simp only [maxLen]; omega) (by have := HOL.out; omega) (by have := Hr.out.b3.lt; omega) ?_); go_loud (intro v5 w50 hown5 hg5 _; obtain ⟨A5, c5, rfl⟩ := own_slice hown5; have hx5 := Hr.out.boxes hg5; obtain ⟨_, _, m25⟩ := rp_box hx5; have f25 := hx5.frozen 2; have H5 := Lib.hid (Hr.out.put hg5 hown5); obtain ⟨p5, q5, r5⟩ := rp_box H5.out.b3; clear hx5 hown5 hg5 m2 hldq HOW))
            | ((with_reducible refine wpList_store_var _ (o := ⟨none, .store _ (.tmp 4) _, _, _, _, _⟩) rfl 24 _ _ rfl (w.heap.size + 1 + 1) [.int .i64 id, .int .i64 bg, .slice A5 (O.length + 1) c5] (tnc tz) (rp_size _ _ _ _ _) (rp_len _ _ _ _ _) (rp_one _ _ _ _ _) rfl rfl H5.out.b2 ?_); go_loud (intro w8 x8 hg8))
            | fail)
          obtain ⟨j0, j1, j2⟩ := rp_box x8
          have hFin := H5.out.fin (by simp) x8 hg8
          exact bodyPost_ret (v := .agg #[.int .i64 id, .int .i64 bg, .slice A5 (O.length + 1) c5]) (by simp [results, Try.results15, go_sem, j0, j1, j2]) rfl ⟨⟨⟨id, bg, putR q ws⟩, A5, c5⟩, by rw [tv2 (show (putR q ws).length = (O.length + 1) by rw [HR.out]; simp)], rfl, by rw [HR.out]; exact hFin.1, hFin.2⟩
        · have HR := Lib.hid (show putR q ws = O by unfold putR; rw [HAll.out]; simp)
          obtain ⟨AA, cc, eV⟩ := own_slice Hr.out.own
          subst eV
          obtain ⟨p5, q5, r5⟩ := rp_box Hr.out.b3
          go_wp2_with (first
            | ((with_reducible refine wpList_store_var _ (o := ⟨none, .store _ (.tmp 4) _, _, _, _, _⟩) rfl 24 _ _ rfl (w.heap.size + 1 + 1) [.int .i64 id, .int .i64 bg, .slice AA O.length cc] (tnc tz) (rp_size _ _ _ _ _) (rp_len _ _ _ _ _) (rp_one _ _ _ _ _) rfl rfl Hr.out.b2 ?_); go_loud (intro w8 x8 hg8))
            | fail)
          obtain ⟨j0, j1, j2⟩ := rp_box x8
          have hFin := Hr.out.fin rfl x8 hg8
          exact bodyPost_ret (v := .agg #[.int .i64 id, .int .i64 bg, .slice AA O.length cc]) (by simp [results, Try.results15, go_sem, j0, j1, j2]) rfl ⟨⟨⟨id, bg, putR q ws⟩, AA, cc⟩, by rw [tv2 (show (putR q ws).length = O.length by rw [HR.out])], rfl, by rw [HR.out]; exact hFin.1, hFin.2⟩
  · have HTr := Lib.hid (And.intro htr True.intro)
    rw [show (⟨y.b, true, d32⟩ : Wt) = q by rw [← hq, clean_yes htr]] at HB2
    clear htr hq hci hy
    go_enter Try.func15, Try.ntmps15
    go_wp2_with (first
      | ((with_reducible refine wpList_box_box _ (o := ⟨some 2, .box _ _, _, _, _, _⟩) rfl _ _ rfl (tnc ⟨⟨id, bg, ws⟩, A, cap⟩) rfl ?_); intro w1 x1 B1 s1)
      | ((with_reducible refine wpList_wt_box (o := ⟨some 3, .box _ _, _, _, _, _⟩) rfl _ rfl y rfl ?_); intro w2 x2 B2 s2; rw [s1] at x2 s2; rw [s1])
      | ((with_reducible refine wpList_alloc_box _ (o := ⟨some 4, .alloc _, _, _, _, _⟩) rfl _ rfl (tnc tz) zero_tn ?_); intro w3 x3 B3 s3; rw [s2] at x3 s3; rw [s2]; have HA : Hid (RpA w w3 ⟨⟨id, bg, ws⟩, A, cap⟩ y) := Lib.hid ⟨x1.on (bthen B2 B3), x2.on B3, x3, s3, bthen (bthen B1 B2) B3⟩; have y0 := HA.out.b1.wt.1; have y1 := HA.out.b1.wt.2; rw [HTr.out.1] at y1; obtain ⟨c0, c1, c2⟩ := tn_box HA.out.b0; clear x1 B1 s1 x2 B2 s2 x3 B3 s3)
      | ((with_reducible refine wpList_build_zero2 _ (o := ⟨some 12, .build _ _, _, _, _, _⟩) rfl _ _ _ _ rfl (twc q) HB2.out rfl rfl ?_))
      | ((with_reducible refine wpList_wt_store (o := ⟨none, .store _ (.tmp 3) _, _, _, _, _⟩) rfl _ _ rfl (w.heap.size + 1) q y HQ.out.2 HYi.out rfl rfl HA.out.b1 ?_); go_loud (intro w4 x4 hg4 s4; have HB : Hid (RpA w w4 ⟨⟨id, bg, ws⟩, A, cap⟩ q) := Lib.hid (HA.out.put x4 hg4 s4); obtain ⟨c0', c1', c2'⟩ := tn_box HB.out.b0; clear x4 hg4 s4 c0 c1 c2 y0 y1))
      | ((with_reducible refine wpList_alloc_box _ (o := ⟨some 5, .alloc _, _, _, _, _⟩) rfl _ rfl (tnc tz) zero_tn ?_); intro w5 x5 B5 s5; rw [HB.out.sz] at x5; rw [HB.out.sz])
      | ((with_reducible refine wpList_store_var _ (o := ⟨none, .store _ (.tmp 5) _, _, _, _, _⟩) rfl 24 _ _ rfl (w.heap.size + 1 + 1 + 1) [.int .i64 id, .int .i64 bg, .slice none 0 0] (tnc tz) (rp_size _ _ _ _ _) (rp_len _ _ _ _ _) (rp_one _ _ _ _ _) rfl rfl x5 ?_); go_loud (intro w6 x6 hg6; have H6 : Hid (RpSt w w6 ⟨⟨id, bg, ws⟩, A, cap⟩ q (.slice none 0 0) []) := Lib.hid (HB.out.start B5 x6 hg6); clear x5 B5 s5 x6 hg6 c0' c1' c2'))
      | fail)
    go_loopw [6, 7] (fun v6 v7 wr => ∃ (k : Nat) (O : List Wt) (laid : Bool) (V : Value), v6 = .bool laid ∧ v7 = .int .i64 k ∧ k ≤ n ∧ Hid ((ws.take k).foldl (putS q) ([], false) = (O, laid)) ∧ Hid (O.length ≤ 2 * k) ∧ Hid (RpSt w wr ⟨⟨id, bg, ws⟩, A, cap⟩ q V O)) (fun _ v7 _ => n - (intOf v7).toNat)
    case atStart => exact ⟨0, [], false, _, rfl, rfl, by omega, Lib.hid rfl, Lib.hid (Nat.le_refl _), H6⟩
    case round =>
      obtain ⟨k, O, laid, V, rfl, rfl, hk, HFl, HOk, Hr⟩ := hrel
      clear H6
      have HOL := Lib.hid (show O.length ≤ 20000 by have := HOk.out; omega)
      by_cases hlt : k < n
      · have hlk : ws[k]? = some (ws[k]'(by rw [HN.out]; exact hlt)) := List.getElem?_eq_getElem _
        obtain ⟨ad, rfl, _, _⟩ := wt_b (m := m) HI.out.2.2 HI.out.1 hlk HM.out
        have HE0 := Lib.hid fun w' (hb : Below w.heap.size w w') => rp_elt (m := m) (HI.out.2.2.below hb) HI.out.1 hlk HM.out
        have HLD := Lib.hid fun w' (hb : Below w.heap.size w w') => rp_load (m := m) (HI.out.2.2.below hb) HI.out.1 hlk HM.out
        have HFo := Lib.hid (show (ws.take (k + 1)).foldl (putS q) ([], false) = putS q (O, laid) (ws[k]'(by rw [HN.out]; exact hlt)) by
          rw [List.take_succ_eq_append_getElem (by rw [HN.out]; exact hlt), List.foldl_append, HFl.out]
          rfl)
        have hyi := HI.out.1 _ (List.getElem_mem (show k < ws.length by rw [HN.out]; exact hlt))
        generalize ws[k]'(by rw [HN.out]; exact hlt) = y at *
        clear hlk HFl
        have hki : (k : Int) < (n : Int) := by omega
        obtain ⟨LY, hLY⟩ : ∃ LY, LY = twc y := ⟨_, rfl⟩
        have HLY : Hid (LY.length = 34 ∧ (∀ u ∈ LY, u.oneCell' = true) ∧ LY = twc y) := Lib.hid ⟨by rw [hLY]; exact twc_len hyi, by rw [hLY]; exact twc_one y, hLY⟩
        rw [← hLY] at HLD
        clear hLY hyi
        cases laid
        · by_cases h1 : y.b < q.b
          · have hd1 : (decide (q.b ≤ y.b)) = false := decide_eq_false (by omega)
            have hd2 : (y.b != q.b) = true := by simp; omega
            have HF := Lib.hid (show putS q (O, false) y = (O ++ [y], false) by
              have a : ¬ q.b ≤ y.b := by omega
              have b : ¬ y.b = q.b := by omega
              simp [putS, a, b])
            clear h1
            obtain ⟨_, _, c2⟩ := tn_box Hr.out.b0
            simp only [HN.out] at c2
            have d0 := Hr.out.b1.wt.1
            have e0 := HE0.out wr Hr.out.below
            go_wp2_with fail
            go_quiet (fail)
            have H4 := Lib.hid (Hr.out.on (below_draws (Below.refl _ _) nq))
            clear c2 d0 e0
            generalize World.drewN wr nq = w4 at *
            obtain ⟨_, _, c2⟩ := tn_box H4.out.b0
            simp only [HN.out] at c2
            have d0 := H4.out.b1.wt.1
            have e0 := HE0.out w4 H4.out.below
            go_wp2_with fail
            go_quiet (fail)
            have H5 := Lib.hid (H4.out.on (below_draws (Below.refl _ _) nq))
            clear c2 d0 e0
            generalize World.drewN w4 nq = w5 at *
            obtain ⟨AB, cb, eW⟩ := own_slice H5.out.own
            subst eW
            have HSO := Lib.hid fun w' (hb : Below w5.heap.size w5 w') => (⟨(rp_box (H5.out.on hb).b3).2.2, (tn_box (H5.out.on hb).b0).2.2.trans (by rw [← HN.out]), HLD.out w' (bthen H5.out.below hb)⟩ : w'.cell? ⟨(w.heap.size + 1 + 1 + 1), 2, none⟩ = some (.slice AB O.length cb) ∧ w'.cell? ⟨w.heap.size, 2, none⟩ = some (.slice (some ad) n cap) ∧ (loadCellsFrom (ad.add (k * m)) 0 m #[]).run Try.prog w' = .ok LY.toArray w')
            have HSd := Lib.hid (HSO.out w5.drew (Below.refl _ _).drew)
            go_wp2_with fail
            refine wp_region_heldT (fun w' => w'.cell? ⟨(w.heap.size + 1 + 1 + 1), 2, none⟩ = some (.slice AB O.length cb) ∧ w'.cell? ⟨w.heap.size, 2, none⟩ = some (.slice (some ad) n cap) ∧ (loadCellsFrom (ad.add (k * m)) 0 m #[]).run Try.prog w' = .ok LY.toArray w') 9 (by kernel_rfl) (by kernel_rfl) ?_
            refine heldT_take (i := 0) (oi := ⟨some 53, .fieldAddr _ _ _, _, _, _, _⟩) (v := ?ve0) rfl (by kernel_rfl) (by decide) (by kernel_rfl) (by kernel_rfl) (fun _ _ _ h => h) (Or.inl ⟨by rfl, ?hye0⟩) HSd.out ?reste0
            case hye0 =>
              intro w hSw
              obtain ⟨hS0, hS1, hS2⟩ := hSw
              go_simp
              try with_reducible rfl
            try simp only [Act.put, List.setIfInBounds_toArray, List.set_cons_zero, List.set_cons_succ]
            refine heldT_take (i := 1) (oi := ⟨some 54, .load _ _, _, _, _, _⟩) (v := ?ve1) rfl (by kernel_rfl) (by decide) (by kernel_rfl) (by kernel_rfl) (fun _ _ _ h => h) (Or.inl ⟨by rfl, ?hye1⟩) HSd.out ?reste1
            case hye1 =>
              intro w hSw
              obtain ⟨hS0, hS1, hS2⟩ := hSw
              go_simp
              try with_reducible rfl
            try simp only [Act.put, List.setIfInBounds_toArray, List.set_cons_zero, List.set_cons_succ]
            refine heldT_take (i := 2) (oi := ⟨some 55, .fieldAddr _ _ _, _, _, _, _⟩) (v := ?ve2) rfl (by kernel_rfl) (by decide) (by kernel_rfl) (by kernel_rfl) (fun _ _ _ h => h) (Or.inl ⟨by rfl, ?hye2⟩) HSd.out ?reste2
            case hye2 =>
              intro w hSw
              obtain ⟨hS0, hS1, hS2⟩ := hSw
              go_simp
              try with_reducible rfl
            try simp only [Act.put, List.setIfInBounds_toArray, List.set_cons_zero, List.set_cons_succ]
            refine heldT_take (i := 3) (oi := ⟨some 56, .load _ _, _, _, _, _⟩) (v := ?ve3) rfl (by kernel_rfl) (by decide) (by kernel_rfl) (by kernel_rfl) (fun _ _ _ h => h) (Or.inl ⟨by rfl, ?hye3⟩) HSd.out ?reste3
            case hye3 =>
              intro w hSw
              obtain ⟨hS0, hS1, hS2⟩ := hSw
              go_simp
              try with_reducible rfl
            try simp only [Act.put, List.setIfInBounds_toArray, List.set_cons_zero, List.set_cons_succ]
            refine heldT_take (i := 4) (oi := ⟨some 57, .move _, _, _, _, _⟩) (v := ?ve4) rfl (by kernel_rfl) (by decide) (by kernel_rfl) (by kernel_rfl) (fun _ _ _ h => h) (Or.inl ⟨by rfl, ?hye4⟩) HSd.out ?reste4
            case hye4 =>
              intro w hSw
              obtain ⟨hS0, hS1, hS2⟩ := hSw
              go_simp
              try with_reducible rfl
            try simp only [Act.put, List.setIfInBounds_toArray, List.set_cons_zero, List.set_cons_succ]
            refine heldT_take (i := 5) (oi := ⟨some 58, .indexAddr _ _ _, _, _, _, _⟩) (v := ?ve5) rfl (by kernel_rfl) (by decide) (by kernel_rfl) (by kernel_rfl) (fun _ _ _ h => h) (Or.inl ⟨by rfl, ?hye5⟩) HSd.out ?reste5
            case hye5 =>
              intro w hSw
              obtain ⟨hS0, hS1, hS2⟩ := hSw
              go_simp
              try with_reducible rfl
            try simp only [Act.put, List.setIfInBounds_toArray, List.set_cons_zero, List.set_cons_succ]
            refine heldT_take (i := 6) (oi := ⟨some 59, .load _ _, _, _, _, _⟩) (v := ?ve6) rfl (by kernel_rfl) (by decide) (by kernel_rfl) (by kernel_rfl) (fun _ _ _ h => h) (Or.inl ⟨by rfl, ?hye6⟩) HSd.out ?reste6
            case hye6 =>
              intro w hSw
              obtain ⟨hS0, hS1, hS2⟩ := hSw
              go_simp
              try with_reducible rfl
            try simp only [Act.put, List.setIfInBounds_toArray, List.set_cons_zero, List.set_cons_succ]
            refine heldT_one (i := 7) (o := ⟨some 60, .buildSlice _ _ _, _, _, _, _⟩) rfl (by kernel_rfl) (by decide) (fun K hK => ?_)
            refine step_slice_one _ rfl _ _ rfl 28 _ 34 48 elemW (by decide) LY HLY.out.1 rfl ?_
            refine hK.out _ _ (HSO.out _ ((Below.refl _ _).drew.alloc (Nat.le_refl _) _)) ?_
            clear hK K
            try simp only [Act.put, List.setIfInBounds_toArray, List.set_cons_zero, List.set_cons_succ]
            refine heldT_one (i := 8) (o := ⟨some 61, .call _, _, _, _, _⟩) rfl (by kernel_rfl) (by decide) (fun K hK => ?_)
            refine step_append_rd _ rfl _ _ _ rfl (w.heap.size + 1 + 1 + 1 + 1) 28 _ 34 48 elemW (.slice AB O.length cb) O.length (tws O) rfl (own_below H5.out.own ((Below.refl _ _).drew.alloc (Nat.le_refl _) _)) _ (some ⟨w5.heap.size, 0, none⟩) 1 1 LY rfl (by rw [HLY.out.1]) (rd_new w5.drew LY 28 (0, 0)) HLY.out.2.1 (by have := HOL.out; simp only [maxLen]; omega) (by have := HOL.out; omega) (by have := H5.out.b3.lt; simp; omega) ?_
            intro v9 w9 hown9 hg9
            obtain ⟨A9, c9, rfl⟩ := own_slice hown9
            have Hd := H5.out.on ((Below.refl _ _).drew.alloc (Nat.le_refl _) (.cells LY.toArray 28))
            have hx9 := Hd.boxes hg9
            have HS9 : Hid (w9.cell? ⟨(w.heap.size + 1 + 1 + 1), 2, none⟩ = some (.slice AB O.length cb) ∧ w9.cell? ⟨w.heap.size, 2, none⟩ = some (.slice (some ad) n cap) ∧ (loadCellsFrom (ad.add (k * m)) 0 m #[]).run Try.prog w9 = .ok LY.toArray w9) := Lib.hid ⟨(rp_box hx9).2.2, (tn_box (Hd.box0 hg9)).2.2.trans (by rw [← HN.out]), HLD.out w9 (Hd.below.grown hg9 Hd.below.size fun b hb => by have := (Hd.own.lt b hb).1; omega)⟩
            obtain ⟨_, _, m29⟩ := rp_box hx9
            have f29 := hx9.frozen 2
            have H6 := Lib.hid (Hd.put hg9 (by rw [HLY.out.2.2] at hown9; exact hown9))
            clear hx9 hown9 hg9 Hd HSd
            refine hK.out _ _ HS9.out ?_
            clear hK K
            try simp only [Act.put, List.setIfInBounds_toArray, List.set_cons_zero, List.set_cons_succ]
            refine heldT_done (by kernel_rfl) ?_
            clear HS9
            go_wp2
            go_roundw
            case rel => exact ⟨k + 1, O ++ [y], false, _, rfl, by go_num, by omega, Lib.hid (HFo.out.trans HF.out), Lib.hid (by have := HOk.out; simp; omega), H6⟩
            case measure => first | (simp [intOf]; done) | (simp [intOf]; omega)
          · have hd1 : (decide (q.b ≤ y.b)) = true := decide_eq_true (by omega)
            by_cases h2 : y.b = q.b
            · have hd2 : (y.b != q.b) = false := by simp [h2]
              have HF := Lib.hid (show putS q (O, false) y = (O ++ [q], true) by simp [putS, h2])
              clear h1 h2
              obtain ⟨_, _, c2⟩ := tn_box Hr.out.b0
              simp only [HN.out] at c2
              have d0 := Hr.out.b1.wt.1
              have e0 := HE0.out wr Hr.out.below
              go_wp2_with fail
              go_quiet (fail)
              have H4 := Lib.hid (Hr.out.on (below_draws (Below.refl _ _) nq))
              clear c2 d0 e0
              generalize World.drewN wr nq = w4 at *
              have HOW := Lib.hid H4.out.own
              have hldq := H4.out.b1.wtAll HQ.out.2 HM.out
              have hq34 := Lib.hid (twc_len HQ.out.2)
              obtain ⟨_, _, m2⟩ := rp_box H4.out.b3
              obtain ⟨AA, cc, eV⟩ := own_slice H4.out.own
              subst eV
              go_wp2_with (first
                | ((with_reducible refine wpList_slice_one _ (o := ⟨some 41, .buildSlice _ _ _, _, _, _, _⟩) rfl 22 28 _ rfl _ 34 48 elemW (by decide) (twc q) hq34.out rfl ?_))
                | (at_builtin; go_loud (refine wpList_append_tell _ rfl _ _ _ rfl (w.heap.size + 1 + 1 + 1 + 1) 28 _ 34 48 elemW (.slice AA O.length cc) _ _ rfl (twc q) rfl HOW.out hq34.out (twc_one q) (by have := HOL.out; simp only [maxLen]; omega) (by have := HOL.out; omega) (by have := H4.out.b3.lt; omega) ?_); go_loud (intro v5 w50 hown5 hg5 _; obtain ⟨A5, c5, rfl⟩ := own_slice hown5; have hx5 := H4.out.boxes hg5; obtain ⟨_, _, m25⟩ := rp_box hx5; have f25 := hx5.frozen 2; have H5 := Lib.hid (H4.out.put hg5 hown5); clear hx5 hown5 hg5 m2 hldq HOW))
                | fail)
              clear m25 f25
              generalize World.setCell w50 ⟨(w.heap.size + 1 + 1 + 1), 2, none⟩ (.slice A5 (O.length + 1) c5) = w5 at *
              obtain ⟨_, _, c2⟩ := tn_box H5.out.b0
              simp only [HN.out] at c2
              have d0 := H5.out.b1.wt.1
              have e0 := HE0.out w5 H5.out.below
              go_quiet (fail)
              have H6 := Lib.hid (H5.out.on (below_draws (Below.refl _ _) nq))
              clear c2 d0 e0
              generalize World.drewN w5 nq = w6 at *
              go_wp2
              go_roundw
              case rel => exact ⟨k + 1, O ++ [q], true, _, rfl, by go_num, by omega, Lib.hid (HFo.out.trans HF.out), Lib.hid (by have := HOk.out; simp; omega), H6⟩
              case measure => first | (simp [intOf]; done) | (simp [intOf]; omega)
            · have hd2 : (y.b != q.b) = true := by simpa using h2
              have HF := Lib.hid (show putS q (O, false) y = (O ++ [q] ++ [y], true) by
                have a : q.b ≤ y.b := by omega
                simp [putS, a, h2])
              clear h1 h2
              obtain ⟨_, _, c2⟩ := tn_box Hr.out.b0
              simp only [HN.out] at c2
              have d0 := Hr.out.b1.wt.1
              have e0 := HE0.out wr Hr.out.below
              go_wp2_with fail
              go_quiet (fail)
              have H4 := Lib.hid (Hr.out.on (below_draws (Below.refl _ _) nq))
              clear c2 d0 e0
              generalize World.drewN wr nq = w4 at *
              have HOW := Lib.hid H4.out.own
              have hldq := H4.out.b1.wtAll HQ.out.2 HM.out
              have hq34 := Lib.hid (twc_len HQ.out.2)
              obtain ⟨_, _, m2⟩ := rp_box H4.out.b3
              obtain ⟨AA, cc, eV⟩ := own_slice H4.out.own
              subst eV
              go_wp2_with (first
                | ((with_reducible refine wpList_slice_one _ (o := ⟨some 41, .buildSlice _ _ _, _, _, _, _⟩) rfl 22 28 _ rfl _ 34 48 elemW (by decide) (twc q) hq34.out rfl ?_))
                | (at_builtin; go_loud (refine wpList_append_tell _ rfl _ _ _ rfl (w.heap.size + 1 + 1 + 1 + 1) 28 _ 34 48 elemW (.slice AA O.length cc) _ _ rfl (twc q) rfl HOW.out hq34.out (twc_one q) (by have := HOL.out; simp only [maxLen]; omega) (by have := HOL.out; omega) (by have := H4.out.b3.lt; omega) ?_); go_loud (intro v5 w50 hown5 hg5 _; obtain ⟨A5, c5, rfl⟩ := own_slice hown5; have hx5 := H4.out.boxes hg5; obtain ⟨_, _, m25⟩ := rp_box hx5; have f25 := hx5.frozen 2; have H5 := Lib.hid (H4.out.put hg5 hown5); clear hx5 hown5 hg5 m2 hldq HOW))
                | fail)
              clear m25 f25
              generalize World.setCell w50 ⟨(w.heap.size + 1 + 1 + 1), 2, none⟩ (.slice A5 (O.length + 1) c5) = w5 at *
              obtain ⟨_, _, c2⟩ := tn_box H5.out.b0
              simp only [HN.out] at c2
              have d0 := H5.out.b1.wt.1
              have e0 := HE0.out w5 H5.out.below
              go_quiet (fail)
              have H6 := Lib.hid (H5.out.on (below_draws (Below.refl _ _) nq))
              clear c2 d0 e0
              generalize World.drewN w5 nq = w6 at *
              obtain ⟨O2, hO2⟩ : ∃ O2, O2 = O ++ [q] := ⟨_, rfl⟩
              have hl2 : O.length + 1 = O2.length := by rw [hO2]; simp
              have HOL := Lib.hid (show O2.length ≤ 20001 by have := HOL.out; omega)
              have HOk := Lib.hid (show O2.length ≤ 2 * k + 1 by have := HOk.out; omega)
              rw [← hO2] at HF H6
              rw [hl2] at H6 ⊢
              clear hO2 hl2
              have HSO := Lib.hid fun w' (hb : Below w6.heap.size w6 w') => (⟨(rp_box (H6.out.on hb).b3).2.2, (tn_box (H6.out.on hb).b0).2.2.trans (by rw [← HN.out]), HLD.out w' (bthen H6.out.below hb)⟩ : w'.cell? ⟨(w.heap.size + 1 + 1 + 1), 2, none⟩ = some (.slice A5 O2.length c5) ∧ w'.cell? ⟨w.heap.size, 2, none⟩ = some (.slice (some ad) n cap) ∧ (loadCellsFrom (ad.add (k * m)) 0 m #[]).run Try.prog w' = .ok LY.toArray w')
              have HSd := Lib.hid (HSO.out w6.drew (Below.refl _ _).drew)
              go_wp2_with fail
              refine wp_region_heldT (fun w' => w'.cell? ⟨(w.heap.size + 1 + 1 + 1), 2, none⟩ = some (.slice A5 O2.length c5) ∧ w'.cell? ⟨w.heap.size, 2, none⟩ = some (.slice (some ad) n cap) ∧ (loadCellsFrom (ad.add (k * m)) 0 m #[]).run Try.prog w' = .ok LY.toArray w') 9 (by kernel_rfl) (by kernel_rfl) ?_
              refine heldT_take (i := 0) (oi := ⟨some 53, .fieldAddr _ _ _, _, _, _, _⟩) (v := ?vf0) rfl (by kernel_rfl) (by decide) (by kernel_rfl) (by kernel_rfl) (fun _ _ _ h => h) (Or.inl ⟨by rfl, ?hyf0⟩) HSd.out ?restf0
              case hyf0 =>
                intro w hSw
                obtain ⟨hS0, hS1, hS2⟩ := hSw
                go_simp
                try with_reducible rfl
              try simp only [Act.put, List.setIfInBounds_toArray, List.set_cons_zero, List.set_cons_succ]
              refine heldT_take (i := 1) (oi := ⟨some 54, .load _ _, _, _, _, _⟩) (v := ?vf1) rfl (by kernel_rfl) (by decide) (by kernel_rfl) (by kernel_rfl) (fun _ _ _ h => h) (Or.inl ⟨by rfl, ?hyf1⟩) HSd.out ?restf1
              case hyf1 =>
                intro w hSw
                obtain ⟨hS0, hS1, hS2⟩ := hSw
                go_simp
                try with_reducible rfl
              try simp only [Act.put, List.setIfInBounds_toArray, List.set_cons_zero, List.set_cons_succ]
              refine heldT_take (i := 2) (oi := ⟨some 55, .fieldAddr _ _ _, _, _, _, _⟩) (v := ?vf2) rfl (by kernel_rfl) (by decide) (by kernel_rfl) (by kernel_rfl) (fun _ _ _ h => h) (Or.inl ⟨by rfl, ?hyf2⟩) HSd.out ?restf2
              case hyf2 =>
                intro w hSw
                obtain ⟨hS0, hS1, hS2⟩ := hSw
                go_simp
                try with_reducible rfl
              try simp only [Act.put, List.setIfInBounds_toArray, List.set_cons_zero, List.set_cons_succ]
              refine heldT_take (i := 3) (oi := ⟨some 56, .load _ _, _, _, _, _⟩) (v := ?vf3) rfl (by kernel_rfl) (by decide) (by kernel_rfl) (by kernel_rfl) (fun _ _ _ h => h) (Or.inl ⟨by rfl, ?hyf3⟩) HSd.out ?restf3
              case hyf3 =>
                intro w hSw
                obtain ⟨hS0, hS1, hS2⟩ := hSw
                go_simp
                try with_reducible rfl
              try simp only [Act.put, List.setIfInBounds_toArray, List.set_cons_zero, List.set_cons_succ]
              refine heldT_take (i := 4) (oi := ⟨some 57, .move _, _, _, _, _⟩) (v := ?vf4) rfl (by kernel_rfl) (by decide) (by kernel_rfl) (by kernel_rfl) (fun _ _ _ h => h) (Or.inl ⟨by rfl, ?hyf4⟩) HSd.out ?restf4
              case hyf4 =>
                intro w hSw
                obtain ⟨hS0, hS1, hS2⟩ := hSw
                go_simp
                try with_reducible rfl
              try simp only [Act.put, List.setIfInBounds_toArray, List.set_cons_zero, List.set_cons_succ]
              refine heldT_take (i := 5) (oi := ⟨some 58, .indexAddr _ _ _, _, _, _, _⟩) (v := ?vf5) rfl (by kernel_rfl) (by decide) (by kernel_rfl) (by kernel_rfl) (fun _ _ _ h => h) (Or.inl ⟨by rfl, ?hyf5⟩) HSd.out ?restf5
              case hyf5 =>
                intro w hSw
                obtain ⟨hS0, hS1, hS2⟩ := hSw
                go_simp
                try with_reducible rfl
              try simp only [Act.put, List.setIfInBounds_toArray, List.set_cons_zero, List.set_cons_succ]
              refine heldT_take (i := 6) (oi := ⟨some 59, .load _ _, _, _, _, _⟩) (v := ?vf6) rfl (by kernel_rfl) (by decide) (by kernel_rfl) (by kernel_rfl) (fun _ _ _ h => h) (Or.inl ⟨by rfl, ?hyf6⟩) HSd.out ?restf6
              case hyf6 =>
                intro w hSw
                obtain ⟨hS0, hS1, hS2⟩ := hSw
                go_simp
                try with_reducible rfl
              try simp only [Act.put, List.setIfInBounds_toArray, List.set_cons_zero, List.set_cons_succ]
              refine heldT_one (i := 7) (o := ⟨some 60, .buildSlice _ _ _, _, _, _, _⟩) rfl (by kernel_rfl) (by decide) (fun K hK => ?_)
              refine step_slice_one _ rfl _ _ rfl 28 _ 34 48 elemW (by decide) LY HLY.out.1 rfl ?_
              refine hK.out _ _ (HSO.out _ ((Below.refl _ _).drew.alloc (Nat.le_refl _) _)) ?_
              clear hK K
              try simp only [Act.put, List.setIfInBounds_toArray, List.set_cons_zero, List.set_cons_succ]
              refine heldT_one (i := 8) (o := ⟨some 61, .call _, _, _, _, _⟩) rfl (by kernel_rfl) (by decide) (fun K hK => ?_)
              refine step_append_rd _ rfl _ _ _ rfl (w.heap.size + 1 + 1 + 1 + 1) 28 _ 34 48 elemW (.slice A5 O2.length c5) O2.length (tws O2) rfl (own_below H6.out.own ((Below.refl _ _).drew.alloc (Nat.le_refl _) _)) _ (some ⟨w6.heap.size, 0, none⟩) 1 1 LY rfl (by rw [HLY.out.1]) (rd_new w6.drew LY 28 (0, 0)) HLY.out.2.1 (by have := HOL.out; simp only [maxLen]; omega) (by have := HOL.out; omega) (by have := H6.out.b3.lt; simp; omega) ?_
              intro v9 w9 hown9 hg9
              obtain ⟨A9, c9, rfl⟩ := own_slice hown9
              have Hd := H6.out.on ((Below.refl _ _).drew.alloc (Nat.le_refl _) (.cells LY.toArray 28))
              have hx9 := Hd.boxes hg9
              have HS9 : Hid (w9.cell? ⟨(w.heap.size + 1 + 1 + 1), 2, none⟩ = some (.slice A5 O2.length c5) ∧ w9.cell? ⟨w.heap.size, 2, none⟩ = some (.slice (some ad) n cap) ∧ (loadCellsFrom (ad.add (k * m)) 0 m #[]).run Try.prog w9 = .ok LY.toArray w9) := Lib.hid ⟨(rp_box hx9).2.2, (tn_box (Hd.box0 hg9)).2.2.trans (by rw [← HN.out]), HLD.out w9 (Hd.below.grown hg9 Hd.below.size fun b hb => by have := (Hd.own.lt b hb).1; omega)⟩
              obtain ⟨_, _, m29⟩ := rp_box hx9
              have f29 := hx9.frozen 2
              have H7 := Lib.hid (Hd.put hg9 (by rw [HLY.out.2.2] at hown9; exact hown9))
              clear hx9 hown9 hg9 Hd HSd
              refine hK.out _ _ HS9.out ?_
              clear hK K
              try simp only [Act.put, List.setIfInBounds_toArray, List.set_cons_zero, List.set_cons_succ]
              refine heldT_done (by kernel_rfl) ?_
              clear HS9
              go_wp2
              go_roundw
              case rel => exact ⟨k + 1, O2 ++ [y], true, _, rfl, by go_num, by omega, Lib.hid (HFo.out.trans HF.out), Lib.hid (by have := HOk.out; simp; omega), H7⟩
              case measure => first | (simp [intOf]; done) | (simp [intOf]; omega)
        · by_cases h2 : y.b = q.b
          · have hd2 : (y.b != q.b) = false := by simp [h2]
            have HF := Lib.hid (show putS q (O, true) y = (O, true) by simp [putS, h2])
            clear h2
            obtain ⟨_, _, c2⟩ := tn_box Hr.out.b0
            simp only [HN.out] at c2
            have d0 := Hr.out.b1.wt.1
            have e0 := HE0.out wr Hr.out.below
            go_wp2_with fail
            go_quiet (fail)
            have H4 := Lib.hid (Hr.out.on (below_draws (Below.refl _ _) nq))
            clear c2 d0 e0
            generalize World.drewN wr nq = w4 at *
            obtain ⟨_, _, c2⟩ := tn_box H4.out.b0
            simp only [HN.out] at c2
            have d0 := H4.out.b1.wt.1
            have e0 := HE0.out w4 H4.out.below
            go_wp2_with fail
            go_quiet (fail)
            have H5 := Lib.hid (H4.out.on (below_draws (Below.refl _ _) nq))
            clear c2 d0 e0
            generalize World.drewN w4 nq = w5 at *
            go_wp2
            go_roundw
            case rel => exact ⟨k + 1, O, true, _, rfl, by go_num, by omega, Lib.hid (HFo.out.trans HF.out), Lib.hid (by have := HOk.out; simp; omega), H5⟩
            case measure => first | (simp [intOf]; done) | (simp [intOf]; omega)
          · have hd2 : (y.b != q.b) = true := by simpa using h2
            have HF := Lib.hid (show putS q (O, true) y = (O ++ [y], true) by simp [putS, h2])
            clear h2
            obtain ⟨_, _, c2⟩ := tn_box Hr.out.b0
            simp only [HN.out] at c2
            have d0 := Hr.out.b1.wt.1
            have e0 := HE0.out wr Hr.out.below
            go_wp2_with fail
            go_quiet (fail)
            have H4 := Lib.hid (Hr.out.on (below_draws (Below.refl _ _) nq))
            clear c2 d0 e0
            generalize World.drewN wr nq = w4 at *
            obtain ⟨_, _, c2⟩ := tn_box H4.out.b0
            simp only [HN.out] at c2
            have d0 := H4.out.b1.wt.1
            have e0 := HE0.out w4 H4.out.below
            go_wp2_with fail
            go_quiet (fail)
            have H5 := Lib.hid (H4.out.on (below_draws (Below.refl _ _) nq))
            clear c2 d0 e0
            generalize World.drewN w4 nq = w5 at *
            obtain ⟨AB, cb, eW⟩ := own_slice H5.out.own
            subst eW
            have HSO := Lib.hid fun w' (hb : Below w5.heap.size w5 w') => (⟨(rp_box (H5.out.on hb).b3).2.2, (tn_box (H5.out.on hb).b0).2.2.trans (by rw [← HN.out]), HLD.out w' (bthen H5.out.below hb)⟩ : w'.cell? ⟨(w.heap.size + 1 + 1 + 1), 2, none⟩ = some (.slice AB O.length cb) ∧ w'.cell? ⟨w.heap.size, 2, none⟩ = some (.slice (some ad) n cap) ∧ (loadCellsFrom (ad.add (k * m)) 0 m #[]).run Try.prog w' = .ok LY.toArray w')
            have HSd := Lib.hid (HSO.out w5.drew (Below.refl _ _).drew)
            go_wp2_with fail
            refine wp_region_heldT (fun w' => w'.cell? ⟨(w.heap.size + 1 + 1 + 1), 2, none⟩ = some (.slice AB O.length cb) ∧ w'.cell? ⟨w.heap.size, 2, none⟩ = some (.slice (some ad) n cap) ∧ (loadCellsFrom (ad.add (k * m)) 0 m #[]).run Try.prog w' = .ok LY.toArray w') 9 (by kernel_rfl) (by kernel_rfl) ?_
            refine heldT_take (i := 0) (oi := ⟨some 53, .fieldAddr _ _ _, _, _, _, _⟩) (v := ?vg0) rfl (by kernel_rfl) (by decide) (by kernel_rfl) (by kernel_rfl) (fun _ _ _ h => h) (Or.inl ⟨by rfl, ?hyg0⟩) HSd.out ?restg0
            case hyg0 =>
              intro w hSw
              obtain ⟨hS0, hS1, hS2⟩ := hSw
              go_simp
              try with_reducible rfl
            try simp only [Act.put, List.setIfInBounds_toArray, List.set_cons_zero, List.set_cons_succ]
            refine heldT_take (i := 1) (oi := ⟨some 54, .load _ _, _, _, _, _⟩) (v := ?vg1) rfl (by kernel_rfl) (by decide) (by kernel_rfl) (by kernel_rfl) (fun _ _ _ h => h) (Or.inl ⟨by rfl, ?hyg1⟩) HSd.out ?restg1
            case hyg1 =>
              intro w hSw
              obtain ⟨hS0, hS1, hS2⟩ := hSw
              go_simp
              try with_reducible rfl
            try simp only [Act.put, List.setIfInBounds_toArray, List.set_cons_zero, List.set_cons_succ]
            refine heldT_take (i := 2) (oi := ⟨some 55, .fieldAddr _ _ _, _, _, _, _⟩) (v := ?vg2) rfl (by kernel_rfl) (by decide) (by kernel_rfl) (by kernel_rfl) (fun _ _ _ h => h) (Or.inl ⟨by rfl, ?hyg2⟩) HSd.out ?restg2
            case hyg2 =>
              intro w hSw
              obtain ⟨hS0, hS1, hS2⟩ := hSw
              go_simp
              try with_reducible rfl
            try simp only [Act.put, List.setIfInBounds_toArray, List.set_cons_zero, List.set_cons_succ]
            refine heldT_take (i := 3) (oi := ⟨some 56, .load _ _, _, _, _, _⟩) (v := ?vg3) rfl (by kernel_rfl) (by decide) (by kernel_rfl) (by kernel_rfl) (fun _ _ _ h => h) (Or.inl ⟨by rfl, ?hyg3⟩) HSd.out ?restg3
            case hyg3 =>
              intro w hSw
              obtain ⟨hS0, hS1, hS2⟩ := hSw
              go_simp
              try with_reducible rfl
            try simp only [Act.put, List.setIfInBounds_toArray, List.set_cons_zero, List.set_cons_succ]
            refine heldT_take (i := 4) (oi := ⟨some 57, .move _, _, _, _, _⟩) (v := ?vg4) rfl (by kernel_rfl) (by decide) (by kernel_rfl) (by kernel_rfl) (fun _ _ _ h => h) (Or.inl ⟨by rfl, ?hyg4⟩) HSd.out ?restg4
            case hyg4 =>
              intro w hSw
              obtain ⟨hS0, hS1, hS2⟩ := hSw
              go_simp
              try with_reducible rfl
            try simp only [Act.put, List.setIfInBounds_toArray, List.set_cons_zero, List.set_cons_succ]
            refine heldT_take (i := 5) (oi := ⟨some 58, .indexAddr _ _ _, _, _, _, _⟩) (v := ?vg5) rfl (by kernel_rfl) (by decide) (by kernel_rfl) (by kernel_rfl) (fun _ _ _ h => h) (Or.inl ⟨by rfl, ?hyg5⟩) HSd.out ?restg5
            case hyg5 =>
              intro w hSw
              obtain ⟨hS0, hS1, hS2⟩ := hSw
              go_simp
              try with_reducible rfl
            try simp only [Act.put, List.setIfInBounds_toArray, List.set_cons_zero, List.set_cons_succ]
            refine heldT_take (i := 6) (oi := ⟨some 59, .load _ _, _, _, _, _⟩) (v := ?vg6) rfl (by kernel_rfl) (by decide) (by kernel_rfl) (by kernel_rfl) (fun _ _ _ h => h) (Or.inl ⟨by rfl, ?hyg6⟩) HSd.out ?restg6
            case hyg6 =>
              intro w hSw
              obtain ⟨hS0, hS1, hS2⟩ := hSw
              go_simp
              try with_reducible rfl
            try simp only [Act.put, List.setIfInBounds_toArray, List.set_cons_zero, List.set_cons_succ]
            refine heldT_one (i := 7) (o := ⟨some 60, .buildSlice _ _ _, _, _, _, _⟩) rfl (by kernel_rfl) (by decide) (fun K hK => ?_)
            refine step_slice_one _ rfl _ _ rfl 28 _ 34 48 elemW (by decide) LY HLY.out.1 rfl ?_
            refine hK.out _ _ (HSO.out _ ((Below.refl _ _).drew.alloc (Nat.le_refl _) _)) ?_
            clear hK K
            try simp only [Act.put, List.setIfInBounds_toArray, List.set_cons_zero, List.set_cons_succ]
            refine heldT_one (i := 8) (o := ⟨some 61, .call _, _, _, _, _⟩) rfl (by kernel_rfl) (by decide) (fun K hK => ?_)
            refine step_append_rd _ rfl _ _ _ rfl (w.heap.size + 1 + 1 + 1 + 1) 28 _ 34 48 elemW (.slice AB O.length cb) O.length (tws O) rfl (own_below H5.out.own ((Below.refl _ _).drew.alloc (Nat.le_refl _) _)) _ (some ⟨w5.heap.size, 0, none⟩) 1 1 LY rfl (by rw [HLY.out.1]) (rd_new w5.drew LY 28 (0, 0)) HLY.out.2.1 (by have := HOL.out; simp only [maxLen]; omega) (by have := HOL.out; omega) (by have := H5.out.b3.lt; simp; omega) ?_
            intro v9 w9 hown9 hg9
            obtain ⟨A9, c9, rfl⟩ := own_slice hown9
            have Hd := H5.out.on ((Below.refl _ _).drew.alloc (Nat.le_refl _) (.cells LY.toArray 28))
            have hx9 := Hd.boxes hg9
            have HS9 : Hid (w9.cell? ⟨(w.heap.size + 1 + 1 + 1), 2, none⟩ = some (.slice AB O.length cb) ∧ w9.cell? ⟨w.heap.size, 2, none⟩ = some (.slice (some ad) n cap) ∧ (loadCellsFrom (ad.add (k * m)) 0 m #[]).run Try.prog w9 = .ok LY.toArray w9) := Lib.hid ⟨(rp_box hx9).2.2, (tn_box (Hd.box0 hg9)).2.2.trans (by rw [← HN.out]), HLD.out w9 (Hd.below.grown hg9 Hd.below.size fun b hb => by have := (Hd.own.lt b hb).1; omega)⟩
            obtain ⟨_, _, m29⟩ := rp_box hx9
            have f29 := hx9.frozen 2
            have H6 := Lib.hid (Hd.put hg9 (by rw [HLY.out.2.2] at hown9; exact hown9))
            clear hx9 hown9 hg9 Hd HSd
            refine hK.out _ _ HS9.out ?_
            clear hK K
            try simp only [Act.put, List.setIfInBounds_toArray, List.set_cons_zero, List.set_cons_succ]
            refine heldT_done (by kernel_rfl) ?_
            clear HS9
            go_wp2
            go_roundw
            case rel => exact ⟨k + 1, O ++ [y], true, _, rfl, by go_num, by omega, Lib.hid (HFo.out.trans HF.out), Lib.hid (by have := HOk.out; simp; omega), H6⟩
            case measure => first | (simp [intOf]; done) | (simp [intOf]; omega)
      · obtain rfl : n = k := by omega
        have HAll := Lib.hid (show ws.foldl (putS q) ([], false) = (O, laid) by
          have h := HFl.out
          rwa [List.take_of_length_le (by rw [HN.out]; exact Nat.le_refl _)] at h)
        obtain ⟨_, _, c2⟩ := tn_box Hr.out.b0
        simp only [HN.out] at c2
        cases laid
        · have HR := Lib.hid (show putR q ws = O ++ [q] by unfold putR; rw [HAll.out]; rfl)
          obtain ⟨p0, p1, _⟩ := rp_box Hr.out.b3
          have HOW := Lib.hid Hr.out.own
          have hldq := Hr.out.b1.wtAll HQ.out.2 HM.out
          have hq34 := Lib.hid (twc_len HQ.out.2)
          obtain ⟨_, _, m2⟩ := rp_box Hr.out.b3
          obtain ⟨AA, cc, eV⟩ := own_slice Hr.out.own
          subst eV
          go_wp2_with (first
            | ((with_reducible refine wpList_slice_one _ (o := ⟨some 68, .buildSlice _ _ _, _, _, _, _⟩) rfl 22 28 _ rfl _ 34 48 elemW (by decide) (twc q) hq34.out rfl ?_))
            | (at_builtin; go_loud (refine wpList_append_tell _ rfl _ _ _ rfl (w.heap.size + 1 + 1 + 1 + 1) 28 _ 34 48 elemW (.slice AA O.length cc) _ _ rfl (twc q) rfl HOW.out hq34.out (twc_one q) (by have := HOL.out; simp only [maxLen]; omega) (by have := HOL.out; omega) (by have := Hr.out.b3.lt; omega) ?_); go_loud (intro v5 w50 hown5 hg5 _; obtain ⟨A5, c5, rfl⟩ := own_slice hown5; have hx5 := Hr.out.boxes hg5; obtain ⟨_, _, m25⟩ := rp_box hx5; have f25 := hx5.frozen 2; have H5 := Lib.hid (Hr.out.put hg5 hown5); obtain ⟨p5, q5, r5⟩ := rp_box H5.out.b3; clear hx5 hown5 hg5 m2 hldq HOW))
            | ((with_reducible refine wpList_store_var _ (o := ⟨none, .store _ (.tmp 4) _, _, _, _, _⟩) rfl 24 _ _ rfl (w.heap.size + 1 + 1) [.int .i64 id, .int .i64 bg, .slice A5 (O.length + 1) c5] (tnc tz) (rp_size _ _ _ _ _) (rp_len _ _ _ _ _) (rp_one _ _ _ _ _) rfl rfl H5.out.b2 ?_); go_loud (intro w8 x8 hg8))
            | fail)
          obtain ⟨j0, j1, j2⟩ := rp_box x8
          have hFin := H5.out.fin (by simp) x8 hg8
          exact bodyPost_ret (v := .agg #[.int .i64 id, .int .i64 bg, .slice A5 (O.length + 1) c5]) (by simp [results, Try.results15, go_sem, j0, j1, j2]) rfl ⟨⟨⟨id, bg, putR q ws⟩, A5, c5⟩, by rw [tv2 (show (putR q ws).length = (O.length + 1) by rw [HR.out]; simp)], rfl, by rw [HR.out]; exact hFin.1, hFin.2⟩
        · have HR := Lib.hid (show putR q ws = O by unfold putR; rw [HAll.out]; simp)
          obtain ⟨AA, cc, eV⟩ := own_slice Hr.out.own
          subst eV
          obtain ⟨p5, q5, r5⟩ := rp_box Hr.out.b3
          go_wp2_with (first
            | ((with_reducible refine wpList_store_var _ (o := ⟨none, .store _ (.tmp 4) _, _, _, _, _⟩) rfl 24 _ _ rfl (w.heap.size + 1 + 1) [.int .i64 id, .int .i64 bg, .slice AA O.length cc] (tnc tz) (rp_size _ _ _ _ _) (rp_len _ _ _ _ _) (rp_one _ _ _ _ _) rfl rfl Hr.out.b2 ?_); go_loud (intro w8 x8 hg8))
            | fail)
          obtain ⟨j0, j1, j2⟩ := rp_box x8
          have hFin := Hr.out.fin rfl x8 hg8
          exact bodyPost_ret (v := .agg #[.int .i64 id, .int .i64 bg, .slice AA O.length cc]) (by simp [results, Try.results15, go_sem, j0, j1, j2]) rfl ⟨⟨⟨id, bg, putR q ws⟩, AA, cc⟩, by rw [tv2 (show (putR q ws).length = O.length by rw [HR.out])], rfl, by rw [HR.out]; exact hFin.1, hFin.2⟩
end Go.Proofs.Ytakpeboicmgnpaa

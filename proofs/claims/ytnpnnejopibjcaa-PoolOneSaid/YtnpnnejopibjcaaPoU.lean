/-
  The document's answer for layer 11: Open.
-/
import Derived.Test.YtnpnnejopibjcaaPoT
import Derived.Test.YtnpnnejopibjcaaPoK
namespace Go.Proofs.Ytnpnnejopibjcaa
open Go.RowKit Geom Leaf Pol Zone
set_option linter.unusedVariables false

/-- what stands in memory while the answer's Open goes over the zones -/
structure RoSt (w w' : World) (b : Nat) (conv soft seq size opn : Int) (A1 : Option Addr) (m c : Nat) (Y : List Int) (e0 e1 e2 : Int) : Prop where
  gp : One w w' conv soft seq size opn
  rs : Box w' (w.heap.size + 1) 31 (plcs none 0 0 0 0 0)
  out : Box w' b 31 (plcs A1 m c e0 e1 e2)
  own : w'.ownsRow (b + 1) 3 1 (.slice A1 m c) m (is Y)
  hb : w.heap.size + 1 < b
section
variable {w w' w2 : World} {b : Nat} {conv soft seq size opn : Int} {A1 A2 : Option Addr} {m c m2 c2 : Nat} {Y Y2 : List Int} {e0 e1 e2 : Int}
theorem RoSt.new {w0 : World} (G : One w w0 conv soft seq size opn) (R : Box w0 (w.heap.size + 1) 31 (plcs none 0 0 0 0 0)) (hb : w0.heap.size = b) :
    RoSt w (w0.alloc (.cells #[.slice none 0 0, .int .i64 0, .int .i64 0, .int .i64 0] 31)) b conv soft seq size opn none 0 0 [] 0 0 0 := by
  subst hb
  exact ⟨G.alloc _, R.alloc _, Box.new w0 _ (plcs none 0 0 0 0 0), World.ownsRow_nil _ _ _ _, R.lt⟩
theorem RoSt.grow (h : RoSt w w' b conv soft seq size opn A1 m c Y e0 e1 e2) (ho : w2.ownsRow (b + 1) 3 1 (.slice A2 m2 c2) m2 (is Y2)) (hg : w'.grownBy w2 (Value.slice A1 m c).ownBlock) :
    w2.cell? ⟨b, 0, none⟩ = some (.slice A1 m c) ∧ w2.frozen? ⟨b, 0, none⟩ = false ∧ RoSt w (w2.setCell ⟨b, 0, none⟩ (.slice A2 m2 c2)) b conv soft seq size opn A2 m2 c2 Y2 e0 e1 e2 := by
  have h1' := h.hb
  have hk : ∀ k, (Value.slice A1 m c).ownBlock = some k → b + 1 ≤ k := fun k hk => (h.own.lt k hk).1
  have hl := h.out.lt
  have hn : ∀ k, k < b + 1 → k < w'.heap.size → w2.heap[k]? = w'.heap[k]? := fun k hk' hl => hg.block k hl (fun e => by have := hk k e.symm; omega)
  have hbl : Below (b + 1) w' w2 := (Below.refl _ _).grown hg (by omega) hk
  have hout : Box w2 b 31 (plcs A1 m c e0 e1 e2) := h.out.same (hn b (Nat.lt_succ_self _) hl)
  have hg2 := pgrown_cell w2 ⟨b, 0, none⟩ (.slice A2 m2 c2)
  have hrs : Box w2 (w.heap.size + 1) 31 (plcs none 0 0 0 0 0) := h.rs.same (hn _ (by omega) h.rs.lt)
  obtain ⟨⟨c0, c1, c2', c3, c4, cl⟩, hb⟩ := h.gp
  have e0' : ∀ o, w2.cell? ⟨w.heap.size, o, none⟩ = w'.cell? ⟨w.heap.size, o, none⟩ := fun o => World.cell?_of_block (a := ⟨w.heap.size, o, none⟩) (hn _ (show w.heap.size < b + 1 by omega) cl)
  have gp2 : One w w2 conv soft seq size opn := ⟨⟨(e0' 0).trans c0, (e0' 1).trans c1, (e0' 2).trans c2', (e0' 3).trans c3, (e0' 4).trans c4, Nat.lt_of_lt_of_le cl hg.size⟩, hb.trans (hbl.mono (by omega))⟩
  exact ⟨hout.cell 0, hout.frozen 0, gp2.grown hg2 (show w.heap.size < b by omega), hrs.grown hg2 (show w.heap.size + 1 ≠ b by omega), hout.set 0 _, own_store ho hg2 (Nat.lt_succ_self _), h.hb⟩
theorem RoSt.head (h : RoSt w w' b conv soft seq size opn A1 m c Y e0 e1 e2) {s : Nat} (hs : s < 3) (z : Int) : RoSt w (w'.setCell ⟨b, 1 + s, none⟩ (.int .i64 z)) b conv soft seq size opn A1 m c Y (sH s 0 z e0) (sH s 1 z e1) (sH s 2 z e2) := by
  have hg2 := pgrown_cell w' ⟨b, 1 + s, none⟩ (.int .i64 z)
  have h1' := h.hb
  exact ⟨h.gp.grown hg2 (show w.heap.size < b by omega), h.rs.grown hg2 (show w.heap.size + 1 ≠ b by omega), h.out.setHead hs z, own_store h.own hg2 (Nat.lt_succ_self _), h.hb⟩
end
theorem One.res' (w : World) (conv soft seq size opn : Int) :
    RoSt w (((w.alloc (.cells #[.int .i64 conv, .int .i64 soft, .int .i64 seq, .int .i64 size, .int .i64 opn] 23)).alloc (.cells #[.slice none 0 0, .int .i64 0, .int .i64 0, .int .i64 0] 31)).alloc (.cells #[.slice none 0 0, .int .i64 0, .int .i64 0, .int .i64 0] 31)) (w.heap.size + 1 + 1) conv soft seq size opn none 0 0 [] 0 0 0 := by
  have h := Box.new (w.alloc (.cells #[.int .i64 conv, .int .i64 soft, .int .i64 seq, .int .i64 size, .int .i64 opn] 23)) 31 (plcs none 0 0 0 0 0)
  rw [show (w.alloc (.cells #[.int .i64 conv, .int .i64 soft, .int .i64 seq, .int .i64 size, .int .i64 opn] 23)).heap.size = w.heap.size + 1 by simp] at h
  exact RoSt.new ((One.new ..).alloc _) h (by simp)
theorem getD_snoc (bs : List Int) (z : Int) (i : Nat) : (bs ++ [z]).getD i 0 = sH bs.length i z (bs.getD i 0) := by
  unfold sH
  by_cases h : bs.length = i
  · subst h
    simp
  · rw [if_neg h]
    rcases Nat.lt_or_ge i bs.length with h' | h'
    · simp [List.getD_eq_getElem?_getD, List.getElem?_append_left h']
    · rw [List.getD_eq_getElem?_getD, List.getD_eq_getElem?_getD, List.getElem?_eq_none (by simp; omega), List.getElem?_eq_none h']
theorem sH_far {s i : Nat} {z h : Int} (hs : 3 ≤ s) (hi : i < 3) : sH s i z h = h := if_neg (by omega)
theorem part_yes {size x : Int} (h0 : 0 < x) (h1 : x < size) : partB size x = true := by
  simp [partB]
  omega
theorem part_no {size x : Int} (h0 : ¬ (0 < x ∧ x < size)) (h1 : 0 ≤ x) (h2 : x ≤ size) : partB size x = false := by
  simp [partB]
  omega

set_option maxRecDepth 100000 in
set_option maxHeartbeats 8000000 in
theorem rpopen_any (conv soft seq size opn : Int) (A : Option Addr) (N cap n : Nat) (L : List Z) (w : World) (hN : L.length = N) (S : Some conv seq size) (hns : (N : Int) = conv + seq) (hn : (n : Int) = seq)
    (hU : ∀ (k : Nat) (x : Int), (ptL size (L.drop conv.toNat))[k]? = some x → 0 ≤ x ∧ x ≤ size) (hr : Rd w w.heap.size A (zc L)) :
    Calls Try.prog 12 #[pgv conv soft seq size opn, .slice A N cap] w fun e w' =>
      (3 < (begX conv size (ptL size (L.drop conv.toNat)) n).length ∧ e = .returned (.tuple #[ppv none 0 0 0 0 0, .bool false]) ∧ Below w.heap.size w w') ∨
      ((begX conv size (ptL size (L.drop conv.toNat)) n).length ≤ 3 ∧ ∃ A' c', e = .returned (.tuple #[ppv A' n c' ((begX conv size (ptL size (L.drop conv.toNat)) n).getD 0 0) ((begX conv size (ptL size (L.drop conv.toNat)) n).getD 1 0) ((begX conv size (ptL size (L.drop conv.toNat)) n).getD 2 0), .bool true]) ∧
        w'.ownsRow w.heap.size 3 1 (.slice A' n c') n (is (ptL size (L.drop conv.toNat))) ∧ Below w.heap.size w w') := by
  obtain ⟨q1, q2, q3, q4, q5⟩ := S
  have H0 := Lib.hid (One.res' w conv soft seq size opn)
  obtain ⟨c, hc⟩ : ∃ c : Nat, conv = (c : Int) := ⟨conv.toNat, by omega⟩
  subst hc
  rw [show ((c : Int)).toNat = c by simp] at hU ⊢
  have HR := Lib.hid hr
  have HPl := Lib.hid (show (ptL size (L.drop c)).length = n by rw [ptL_length, List.length_drop]; omega)
  have HP : Hid (∀ I z, c ≤ I → L[I]? = some z → (ptL size (L.drop c)).getD (I - c) 0 = usedI size z.1 z.2) := Lib.hid fun I z h1 h2 => ptL_at (size := size) (by rw [List.getElem?_drop, show c + (I - c) = I by omega]; exact h2)
  have HLN := Lib.hid hN
  have HU := Lib.hid hU
  have HNs := Lib.hid hns
  subst hn
  generalize ptL size (L.drop c) = U at *
  have hw0 := IntWalk.i64_in ((c : Int) + (n : Int)) (by omega)
  have hc64 : c + n ≤ 64 := by omega
  have HS8 := Lib.hid q4
  clear hr hU hN hns q1 q2 q3 q4 q5
  go_enter Try.func12, Try.ntmps12
  go_wp2_with fail
  generalize World.alloc _ _ = w1 at H0 ⊢
  generalize hb : w.heap.size + 1 + 1 = b at H0 ⊢
  have Hb := Lib.hid hb
  clear hb
  go_loopw [7, 8] (fun nn i wr => ∃ (I : Nat) (A1 : Option Addr) (c1 : Nat), c ≤ I ∧ I ≤ c + n ∧ i = .int .i64 I ∧ nn = .int .i64 ((begX c size U (I - c)).length : Int) ∧ RoSt w wr b (c : Int) soft (n : Int) size opn A1 (I - c) c1 (U.take (I - c)) ((begX c size U (I - c)).getD 0 0) ((begX c size U (I - c)).getD 1 0) ((begX c size U (I - c)).getD 2 0)) (fun _ i _ => c + n - (intOf i).toNat)
  case atStart => exact ⟨c, none, 0, by omega, by omega, rfl, by simp [begX], by simpa [begX] using H0.out⟩
  case round =>
    obtain ⟨I, A1, c1, hI, hI2, rfl, rfl, hst⟩ := hrel
    have H1 := Lib.hid hst
    clear hst H0
    obtain ⟨c0, c1', c2, c3, c4, cl⟩ := id H1.out.gp.1
    obtain ⟨k, hk⟩ : ∃ k, I - c = k := ⟨_, rfl⟩
    rw [hk] at H1 ⊢
    have HK := Lib.hid hk
    have hIk : I = c + k := by omega
    by_cases hlt : I < c + n
    rotate_left
    · obtain rfl : k = n := by omega
      have HT := Lib.hid (show U.take k = U from List.take_of_length_le (Nat.le_of_eq HPl.out))
      have hltI : decide ((I : Int) < (c : Int) + (k : Int)) = false := decide_eq_false (by omega)
      have hle := beg_le (c : Int) size U k
      obtain ⟨b0, b1, b2, b3, bl⟩ := H1.out.out.pool
      by_cases h3 : 3 < (begX (c : Int) size U k).length
      · have H3' := Lib.hid h3
        have hd3 : decide ((3 : Int) < ((begX (c : Int) size U k).length : Int)) = true := decide_eq_true (by omega)
        generalize hm : (begX (c : Int) size U k).length = m at *
        have HM := Lib.hid hm
        clear hm hk hIk
        go_wp2_with ((with_reducible refine wpList_pool_store (o := ⟨none, .store _ _ _, _, _, _, _⟩) rfl _ _ rfl _ none none 0 0 0 0 0 0 0 0 0 0 rfl rfl H1.out.rs ?_); intro w9 x9 hg9; have HF := Lib.hid (H1.out.gp.2.grown hg9 H1.out.gp.2.size (fun k hk => by injection hk with hk; omega)); obtain ⟨r0, r1, r2, r3, rl⟩ := Box.pool x9; clear hg9 x9)
        exact bodyPost_ret (v := .tuple #[ppv none 0 0 0 0 0, .bool false]) (by simp [results, Try.results12, go_sem, r0, r1, r2, r3]) rfl (Or.inl ⟨by rw [HM.out]; exact H3'.out, rfl, HF.out⟩)
      · have h3' : (begX (c : Int) size U k).length ≤ 3 := by omega
        have H3' := Lib.hid h3'
        have hd3 : decide ((3 : Int) < ((begX (c : Int) size U k).length : Int)) = false := decide_eq_false (by omega)
        generalize hbs : begX (c : Int) size U k = bs at *
        have HBs := Lib.hid hbs
        generalize he0 : bs.getD 0 0 = e0 at *
        generalize he1 : bs.getD 1 0 = e1 at *
        generalize he2 : bs.getD 2 0 = e2 at *
        have HE := Lib.hid (And.intro he0 (And.intro he1 he2))
        generalize hm : bs.length = m at *
        have HM := Lib.hid hm
        clear he0 he1 he2 hbs hk hIk h3 h3' hm
        have HBb := Lib.hid H1.out.hb
        go_wp2_with ((with_reducible refine wpList_pool_store (o := ⟨none, .store _ _ _, _, _, _, _⟩) rfl _ _ rfl _ A1 none k 0 c1 0 e0 e1 e2 0 0 0 rfl rfl H1.out.rs ?_); intro w9 x9 hg9; have HF := Lib.hid (H1.out.gp.2.grown hg9 H1.out.gp.2.size (fun k hk => by injection hk with hk; omega)); have HO9 := Lib.hid (own_base0 (own_store H1.out.own hg9 (by have := HBb.out; omega)) (by have := HBb.out; omega : w.heap.size ≤ b + 1)); obtain ⟨r0, r1, r2, r3, rl⟩ := Box.pool x9; clear hg9 x9)
        exact bodyPost_ret (v := .tuple #[ppv A1 k c1 e0 e1 e2, .bool true]) (by simp [results, Try.results12, go_sem, r0, r1, r2, r3]) rfl (Or.inr ⟨by rw [HBs.out, HM.out]; exact H3'.out, A1, c1, by rw [HBs.out, HE.out.1, HE.out.2.1, HE.out.2.2], by have := HO9.out; rwa [HT.out] at this, HF.out⟩)
    have hltI : decide ((I : Int) < (c : Int) + (n : Int)) = true := decide_eq_true (by omega)
    have hz : L[I]? = some (L.getD I (0, 0)) := getD_of (by have := HNs.out; have := HLN.out; omega)
    have HPk := Lib.hid (by rw [← hk]; exact HP.out I _ hI hz : U.getD k 0 = usedI size (L.getD I (0, 0)).1 (L.getD I (0, 0)).2)
    have hkn' : k < n := by omega
    have HUk := Lib.hid (HU.out k (U.getD k 0) (by simp [HPl.out, hkn']))
    have HTk := Lib.hid (show U.take (k + 1) = U.take k ++ [U.getD k 0] by rw [List.take_succ_eq_append_getElem (by rw [HPl.out]; omega)]; congr 1; simp [HPl.out, hkn'])
    obtain ⟨ad, rfl, _, hc, hc1⟩ := (HR.out.one H1.out.gp).zone hz
    have hIN : (I : Int) < (N : Int) := by have := HNs.out; omega
    have HB0 := Lib.hid (beg_no (conv := (c : Int)) (size := size) (U := U) (k := k))
    have HB1 := Lib.hid (beg_yes (conv := (c : Int)) (size := size) (U := U) (k := k))
    have hble := beg_le (c : Int) size U k
    have hkn : k < 64 := by omega
    have hwI := IntWalk.i64_in ((I : Int) + 1) (by omega)
    have HI := Lib.hid hIk
    generalize L.getD I (0, 0) = z at hc hc1 HPk
    generalize U.getD k 0 = x at HPk HUk HTk HB0 HB1
    obtain ⟨b0, b1, b2, b3, bl⟩ := H1.out.out.pool
    have hown := H1.out.own
    have hbs : b + 1 ≤ wr.heap.size := bl
    clear hz hk hIk
    by_cases hst : z.1 = 3
    · have hq : (z.1 == 3) = true := by simpa using hst
      have hxv : x = size := by rw [HPk.out]; exact if_pos hst
      have HX := Lib.hid hxv
      subst hxv
      have hp0 : decide (0 < x) = true := decide_eq_true (by have := HS8.out; omega)
      have hp1 : decide (x < x) = false := decide_eq_false (by omega)
      have HBn := Lib.hid (HB0.out (part_no (by omega) (by have := HS8.out; omega) (by omega)))
      clear hst HB0 HB1
      go_wp2_with (first
        | (at_builtin; go_loud (refine wpList_append_one _ rfl _ _ _ rfl (b + 1) 3 _ 8 pelemI (.slice A1 k c1) k _ rfl _ rfl hown rfl (by simp only [maxLen]; omega) (by omega) hbs ?_); intro v4 w4 hown4 hg4; obtain ⟨A4, cp4, rfl⟩ := own_slice hown4; obtain ⟨e0, f0, h4⟩ := H1.out.grow (Y2 := U.take k ++ [x]) (by rw [pis_append, pis_one1]; exact hown4) hg4; have H4 := Lib.hid h4; clear c0 c1' c2 c3 c4 cl b0 b1 b2 b3 bl hc hc1 hown4 hg4 h4; obtain ⟨c0, c1', c2, c3, c4, cl⟩ := id H4.out.gp.1)
        | fail)
      go_roundw
      case rel => exact ⟨I + 1, A4, cp4, by omega, by omega, by go_num, by rw [show I + 1 - c = k + 1 by have := HI.out; omega, HBn.out], by rw [show I + 1 - c = k + 1 by have := HI.out; omega, HBn.out, HTk.out]; exact H4.out⟩
      case measure => first | (simp [intOf]; done) | (simp [intOf]; omega)
    have hq : (z.1 == 3) = false := by simpa using hst
    have hxv : x = z.2 := by rw [HPk.out]; exact if_neg hst
    rw [← hxv] at hc1
    clear hst hxv
    by_cases h0 : 0 < x
    rotate_left
    · have hp0 : decide (0 < x) = false := decide_eq_false h0
      have HBn := Lib.hid (HB0.out (part_no (by omega) HUk.out.1 HUk.out.2))
      clear h0 HB0 HB1
      go_wp2_with (first
        | (at_builtin; go_loud (refine wpList_append_one _ rfl _ _ _ rfl (b + 1) 3 _ 8 pelemI (.slice A1 k c1) k _ rfl _ rfl hown rfl (by simp only [maxLen]; omega) (by omega) hbs ?_); intro v4 w4 hown4 hg4; obtain ⟨A4, cp4, rfl⟩ := own_slice hown4; obtain ⟨e0, f0, h4⟩ := H1.out.grow (Y2 := U.take k ++ [x]) (by rw [pis_append, pis_one1]; exact hown4) hg4; have H4 := Lib.hid h4; clear c0 c1' c2 c3 c4 cl b0 b1 b2 b3 bl hc hc1 hown4 hg4 h4; obtain ⟨c0, c1', c2, c3, c4, cl⟩ := id H4.out.gp.1)
        | fail)
      go_roundw
      case rel => exact ⟨I + 1, A4, cp4, by omega, by omega, by go_num, by rw [show I + 1 - c = k + 1 by have := HI.out; omega, HBn.out], by rw [show I + 1 - c = k + 1 by have := HI.out; omega, HBn.out, HTk.out]; exact H4.out⟩
      case measure => first | (simp [intOf]; done) | (simp [intOf]; omega)
    have hp0 : decide (0 < x) = true := decide_eq_true h0
    by_cases h1 : x < size
    rotate_left
    · have hp1 : decide (x < size) = false := decide_eq_false h1
      have HBn := Lib.hid (HB0.out (part_no (by omega) HUk.out.1 HUk.out.2))
      clear h0 h1 HB0 HB1
      go_wp2_with (first
        | (at_builtin; go_loud (refine wpList_append_one _ rfl _ _ _ rfl (b + 1) 3 _ 8 pelemI (.slice A1 k c1) k _ rfl _ rfl hown rfl (by simp only [maxLen]; omega) (by omega) hbs ?_); intro v4 w4 hown4 hg4; obtain ⟨A4, cp4, rfl⟩ := own_slice hown4; obtain ⟨e0, f0, h4⟩ := H1.out.grow (Y2 := U.take k ++ [x]) (by rw [pis_append, pis_one1]; exact hown4) hg4; have H4 := Lib.hid h4; clear c0 c1' c2 c3 c4 cl b0 b1 b2 b3 bl hc hc1 hown4 hg4 h4; obtain ⟨c0, c1', c2, c3, c4, cl⟩ := id H4.out.gp.1)
        | fail)
      go_roundw
      case rel => exact ⟨I + 1, A4, cp4, by omega, by omega, by go_num, by rw [show I + 1 - c = k + 1 by have := HI.out; omega, HBn.out], by rw [show I + 1 - c = k + 1 by have := HI.out; omega, HBn.out, HTk.out]; exact H4.out⟩
      case measure => first | (simp [intOf]; done) | (simp [intOf]; omega)
    have hp1 : decide (x < size) = true := decide_eq_true h1
    have HBy := Lib.hid (by rw [HB1.out (part_yes h0 h1), show (c : Int) + k = (I : Int) by have := HI.out; omega] : begX (c : Int) size U (k + 1) = begX (c : Int) size U k ++ [(I : Int)])
    clear h0 h1 HB0 HB1
    generalize begX (c : Int) size U k = bs at *
    have hwm := IntWalk.i64_in ((bs.length : Int) + 1) (by omega)
    by_cases hm : bs.length < 3
    · have hmI : (bs.length : Int) < 3 := by omega
      have HM := Lib.hid hm
      go_wp2_with (first
        | (at_builtin; go_loud (refine wpList_append_one _ rfl _ _ _ rfl (b + 1) 3 _ 8 pelemI (.slice A1 k c1) k _ rfl _ rfl hown rfl (by simp only [maxLen]; omega) (by omega) hbs ?_); intro v4 w4 hown4 hg4; obtain ⟨A4, cp4, rfl⟩ := own_slice hown4; obtain ⟨e0, f0, h4⟩ := H1.out.grow (Y2 := U.take k ++ [x]) (by rw [pis_append, pis_one1]; exact hown4) hg4; have H4 := Lib.hid h4; clear c0 c1' c2 c3 c4 cl b0 b1 b2 b3 bl hc hc1 hown4 hg4 h4; obtain ⟨c0, c1', c2, c3, c4, cl⟩ := id H4.out.gp.1; have bh := H4.out.out.pool.head HM.out; have bf := H4.out.out.frozen (1 + bs.length); have H5 := Lib.hid (H4.out.head HM.out (I : Int)))
        | fail)
      go_roundw
      case rel => exact ⟨I + 1, A4, cp4, by omega, by omega, by go_num, by rw [show I + 1 - c = k + 1 by have := HI.out; omega, HBy.out, List.length_append]; go_num, by rw [show I + 1 - c = k + 1 by have := HI.out; omega, HBy.out, HTk.out, getD_snoc, getD_snoc, getD_snoc]; exact H5.out⟩
      case measure => first | (simp [intOf]; done) | (simp [intOf]; omega)
    have hmI : decide ((bs.length : Int) < 3) = false := decide_eq_false (by omega)
    have HM := Lib.hid (show 3 ≤ bs.length by omega)
    clear hm
    go_wp2_with (first
      | (at_builtin; go_loud (refine wpList_append_one _ rfl _ _ _ rfl (b + 1) 3 _ 8 pelemI (.slice A1 k c1) k _ rfl _ rfl hown rfl (by simp only [maxLen]; omega) (by omega) hbs ?_); intro v4 w4 hown4 hg4; obtain ⟨A4, cp4, rfl⟩ := own_slice hown4; obtain ⟨e0, f0, h4⟩ := H1.out.grow (Y2 := U.take k ++ [x]) (by rw [pis_append, pis_one1]; exact hown4) hg4; have H4 := Lib.hid h4; clear c0 c1' c2 c3 c4 cl b0 b1 b2 b3 bl hc hc1 hown4 hg4 h4; obtain ⟨c0, c1', c2, c3, c4, cl⟩ := id H4.out.gp.1)
      | fail)
    go_roundw
    case rel => exact ⟨I + 1, A4, cp4, by omega, by omega, by go_num, by rw [show I + 1 - c = k + 1 by have := HI.out; omega, HBy.out, List.length_append]; go_num, by rw [show I + 1 - c = k + 1 by have := HI.out; omega, HBy.out, HTk.out, getD_snoc, getD_snoc, getD_snoc, sH_far HM.out (by omega), sH_far HM.out (by omega), sH_far HM.out (by omega)]; exact H4.out⟩
    case measure => first | (simp [intOf]; done) | (simp [intOf]; omega)
end Go.Proofs.Ytnpnnejopibjcaa

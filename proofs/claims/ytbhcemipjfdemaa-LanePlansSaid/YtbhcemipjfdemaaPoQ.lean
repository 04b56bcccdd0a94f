/-
  The document's answer for layer 11: with.
-/
import Derived.Test.YtbhcemipjfdemaaPoP
namespace Go.Proofs.Ytbhcemipjfdemaa
open Go.RowKit Geom Leaf Pol
set_option linter.unusedVariables false

/-- what stands in memory while a pool is laid point by point: the measure, the pool, the result's variable, the new pool's variable b, its points -/
structure WiSt (w w' : World) (b : Nat) (conv soft seq size opn : Int) (A : Option Addr) (n cap : Nat) (h0 h1 h2 : Int) (A1 : Option Addr) (m c : Nat) (Y : List Int) : Prop where
  gp : GP w w' conv soft seq size opn A n cap h0 h1 h2
  rs : Box w' (w.heap.size + 1 + 1) 27 (plcs none 0 0 0 0 0)
  out : Box w' b 27 (plcs A1 m c h0 h1 h2)
  own : w'.ownsRow (b + 1) 3 1 (.slice A1 m c) m (is Y)
  hb : w.heap.size + 1 + 1 < b
section
variable {w w' w2 : World} {b : Nat} {conv soft seq size opn : Int} {A : Option Addr} {n cap : Nat} {h0 h1 h2 : Int} {A1 A2 : Option Addr} {m c m2 c2 : Nat} {Y Y2 : List Int}
theorem WiSt.drew (h : WiSt w w' b conv soft seq size opn A n cap h0 h1 h2 A1 m c Y) : WiSt w w'.drew b conv soft seq size opn A n cap h0 h1 h2 A1 m c Y := ⟨h.gp.drew, h.rs, h.out, h.own, h.hb⟩
theorem WiSt.new {w0 : World} (G : GP w w0 conv soft seq size opn A n cap h0 h1 h2) (R : Box w0 (w.heap.size + 1 + 1) 27 (plcs none 0 0 0 0 0)) :
    WiSt w (w0.alloc (.cells #[.slice none 0 0, .int .i64 h0, .int .i64 h1, .int .i64 h2] 27)) w0.heap.size conv soft seq size opn A n cap h0 h1 h2 none 0 0 [] :=
  ⟨G.alloc _, R.alloc _, Box.new w0 _ (plcs none 0 0 h0 h1 h2), World.ownsRow_nil _ _ _ _, R.lt⟩
/-- the points have grown -/
theorem WiSt.grow (h : WiSt w w' b conv soft seq size opn A n cap h0 h1 h2 A1 m c Y) (ho : w2.ownsRow (b + 1) 3 1 (.slice A2 m2 c2) m2 (is Y2)) (hg : w'.grownBy w2 (Value.slice A1 m c).ownBlock) :
    w2.cell? ⟨b, 0, none⟩ = some (.slice A1 m c) ∧ w2.frozen? ⟨b, 0, none⟩ = false ∧ WiSt w (w2.setCell ⟨b, 0, none⟩ (.slice A2 m2 c2)) b conv soft seq size opn A n cap h0 h1 h2 A2 m2 c2 Y2 := by
  have h1' := h.hb
  have hk : ∀ k, (Value.slice A1 m c).ownBlock = some k → b + 1 ≤ k := fun k hk => (h.own.lt k hk).1
  have hl := h.out.lt
  have hn : ∀ k, k < b + 1 → k < w'.heap.size → w2.heap[k]? = w'.heap[k]? := fun k hk' hl => hg.block k hl (fun e => by have := hk k e.symm; omega)
  have hbl : Below (b + 1) w' w2 := (Below.refl _ _).grown hg (by omega) hk
  have hout : Box w2 b 27 (plcs A1 m c h0 h1 h2) := h.out.same (hn b (Nat.lt_succ_self _) hl)
  have hg2 := pgrown_cell w2 ⟨b, 0, none⟩ (.slice A2 m2 c2)
  have hrs : Box w2 (w.heap.size + 1 + 1) 27 (plcs none 0 0 0 0 0) := h.rs.same (hn _ (by omega) h.rs.lt)
  obtain ⟨⟨c0, c1, c2', c3, c4, cl⟩, ⟨a0, a1, a2, a3, al⟩, hb⟩ := h.gp
  have e0 : ∀ o, w2.cell? ⟨w.heap.size, o, none⟩ = w'.cell? ⟨w.heap.size, o, none⟩ := fun o => World.cell?_of_block (a := ⟨w.heap.size, o, none⟩) (hn _ (show w.heap.size < b + 1 by omega) cl)
  have e1 : ∀ o, w2.cell? ⟨w.heap.size + 1, o, none⟩ = w'.cell? ⟨w.heap.size + 1, o, none⟩ := fun o => World.cell?_of_block (a := ⟨w.heap.size + 1, o, none⟩) (hn _ (show w.heap.size + 1 < b + 1 by omega) al)
  have gp2 : GP w w2 conv soft seq size opn A n cap h0 h1 h2 := ⟨⟨(e0 0).trans c0, (e0 1).trans c1, (e0 2).trans c2', (e0 3).trans c3, (e0 4).trans c4, Nat.lt_of_lt_of_le cl hg.size⟩,
    ⟨(e1 0).trans a0, (e1 1).trans a1, (e1 2).trans a2, (e1 3).trans a3, Nat.lt_of_lt_of_le al hg.size⟩, hb.trans (hbl.mono (by omega))⟩
  exact ⟨hout.cell 0, hout.frozen 0, gp2.grown hg2 (show w.heap.size + 1 < b by omega), hrs.grown hg2 (show w.heap.size + 1 + 1 ≠ b by omega), hout.set 0 _, own_store ho hg2 (Nat.lt_succ_self _), h.hb⟩
end
section
variable (conv soft seq size opn : Int) (A : Option Addr) (n cap : Nat) (ps : List Int) (h0 h1 h2 : Int)
set_option maxRecDepth 100000 in
set_option maxHeartbeats 4000000 in
theorem rpwith_any (j : Nat) (x : Int) (w : World) (hm : n ≤ 64) (hp : 0 < n) (hn : ps.length = n) (S : Some conv seq size) (hj : j < 64) (hr : Rd w w.heap.size A (is ps)) :
    Calls Try.prog 45 #[pgv conv soft seq size opn, ppv A n cap h0 h1 h2, .int .i64 (conv + j), .int .i64 x] w fun e w' =>
      ∃ A' c', e = .returned (ppv A' n c' h0 h1 h2) ∧ w'.ownsRow w.heap.size 3 1 (.slice A' n c') n (is (ps.set j x)) ∧ Below w.heap.size w w' := by
  obtain ⟨q1, q2, q3, q4, q5⟩ := S
  have H0 := Lib.hid (GP.res w conv soft seq size opn A n cap h0 h1 h2)
  have HR := Lib.hid hr
  have HN := Lib.hid hn
  have HP := Lib.hid hp
  have hw2 : IntKind.i64.wrap (conv + (j : Int) - conv) = (j : Int) := by rw [show conv + (j : Int) - conv = j by omega]; exact IntWalk.i64_in _ (by omega)
  clear hr hn
  go_enter Try.func45, Try.ntmps45
  have H1 := Lib.hid (WiSt.new H0.out.1 H0.out.2)
  go_wp2_with fail
  generalize World.alloc _ _ = w1 at H1 ⊢
  generalize hb : (World.alloc (World.alloc (World.alloc w _) _) _).heap.size = b at H1 ⊢
  obtain rfl : b = w.heap.size + 1 + 1 + 1 := by rw [← hb]; simp
  clear hb
  generalize hb : w.heap.size + 1 + 1 + 1 = b at H1 ⊢
  have Hb := Lib.hid hb
  clear hb
  have HX := Lib.hid (show (ps.set j x).length = n by rw [List.length_set]; exact HN.out)
  have HXk : Hid (∀ k, k < n → (ps.set j x).getD k 0 = if k = j then x else ps.getD k 0) := Lib.hid fun k hk => by
    by_cases e : k = j
    · subst e
      rw [if_pos rfl]
      simp [HN.out, hk]
    · rw [if_neg e]
      simp [List.getD_eq_getElem?_getD, List.getElem?_set_ne (Ne.symm e)]
  generalize hq : ps.set j x = qs at HX HXk
  have HQ := Lib.hid hq
  clear hq
  go_loopw [10] (fun i wr => ∃ (k : Nat) (A1 : Option Addr) (c1 : Nat), k ≤ n ∧ i = .int .i64 k ∧ WiSt w wr b conv soft seq size opn A n cap h0 h1 h2 A1 k c1 (qs.take k)) (fun i _ => n - (intOf i).toNat)
  case atStart => exact ⟨0, none, 0, by omega, rfl, H1.out⟩
  case round =>
    obtain ⟨k, A1, cp1, hk, rfl, hst⟩ := hrel
    have H2 := Lib.hid hst
    clear hst H1 H0
    obtain ⟨a0, a1, a2, a3, al⟩ := id H2.out.gp.2.1
    obtain ⟨b0, b1, b2, b3, bl⟩ := H2.out.out.pool
    by_cases hlt : k < n
    rotate_left
    · obtain rfl : n = k := by omega
      have HT := Lib.hid (show qs.take n = qs from List.take_of_length_le (Nat.le_of_eq HX.out))
      obtain ⟨g1, rfl, hg1, hg1'⟩ := own_at H2.out.own HP.out
      have HG := Lib.hid hg1
      clear hg1 hg1'
      go_wp2_with ((with_reducible refine wpList_pool_store (o := ⟨none, .store _ _ _, _, _, _, _⟩) rfl _ _ rfl _ (some ⟨g1, 0, none⟩) none n 0 cp1 0 h0 h1 h2 0 0 0 rfl rfl H2.out.rs ?_); intro w9 x9 hg9; have HF := Lib.hid (H2.out.gp.2.2.grown hg9 H2.out.gp.2.2.size (fun k hk => by injection hk with hk; omega)); have HO9 := Lib.hid (own_base0 (own_grown H2.out.own hg9 (by have := HG.out; have := Hb.out; omega)) (by have := Hb.out; omega : w.heap.size ≤ b + 1)); obtain ⟨r0, r1, r2, r3, rl⟩ := Box.pool x9; clear hg9 x9)
      exact bodyPost_ret (v := ppv (some ⟨g1, 0, none⟩) n cp1 h0 h1 h2) (by simp [results, Try.results45, go_sem, r0, r1, r2, r3]) rfl ⟨_, cp1, rfl, by rw [HQ.out]; have := HO9.out; rwa [HT.out] at this, HF.out⟩
    obtain ⟨ad, rfl, _, pc⟩ := (Rd.gp HR.out H2.out.gp).point (k := k) (by rw [HN.out]; exact hlt)
    obtain ⟨c0, c1, c2, c3, c4, cl⟩ := id H2.out.gp.1
    have hki : (k : Int) < (n : Int) := by omega
    have HTk := Lib.hid (show qs.take (k + 1) = qs.take k ++ [qs.getD k 0] by rw [List.take_succ_eq_append_getElem (by rw [HX.out]; exact hlt)]; simp [HX.out, hlt])
    have hown := H2.out.own
    have hbs : b + 1 ≤ wr.heap.size := bl
    by_cases hkj : k = j
    · have hd : ((k : Int) == (j : Int)) = true := by rw [beq_iff_eq]; omega
      have HV := Lib.hid (show qs.take (k + 1) = qs.take k ++ [x] by rw [HTk.out, HXk.out k hlt, if_pos hkj])
      clear hkj HTk
      go_wp2_with (first
        | (at_builtin; go_loud (refine wpList_append_one _ rfl _ _ _ rfl (b + 1) 3 _ 8 pelemI (.slice A1 k cp1) k _ rfl _ rfl hown rfl (by simp only [maxLen]; omega) (by omega) hbs ?_); intro v4 w4 hown4 hg4; obtain ⟨A4, cp4, rfl⟩ := own_slice hown4; obtain ⟨e0, f0, h4⟩ := H2.out.grow (Y2 := qs.take k ++ [x]) (by rw [pis_append, pis_one1]; exact hown4) hg4; have H4 := Lib.hid h4; clear hown4 hg4 h4)
        | fail)
      go_roundw
      case rel => exact ⟨k + 1, A4, cp4, by omega, by go_num, by rw [HV.out]; exact H4.out⟩
      case measure => first | (simp [intOf]; done) | (simp [intOf]; omega)
    · have hd : ((k : Int) == (j : Int)) = false := by rw [beq_eq_false_iff_ne]; omega
      have HV := Lib.hid (show qs.take (k + 1) = qs.take k ++ [ps.getD k 0] by rw [HTk.out, HXk.out k hlt, if_neg hkj])
      clear hkj HTk
      generalize ps.getD k 0 = y at pc HV
      go_wp2_with fail
      go_region_law (refine step_append_one _ rfl _ _ _ rfl (b + 1) 3 _ 8 pelemI (.slice A1 k cp1) k _ rfl (hown.drew.alloc _) wr.heap.size _ rfl (cell_one_new _ _ _) rfl (by unfold maxLen; omega) (by omega) (by simp; omega) ?_; intro v4 w4 hown4 hg4; obtain ⟨A4, cp4, rfl⟩ := own_slice hown4; obtain ⟨e0, f0, h4⟩ := (WiSt.drew H2.out).grow (Y2 := qs.take k ++ [y]) (by rw [pis_append, pis_one1]; exact hown4) ((World.grownBy_alloc _ _ _).trans hg4); have H4 := Lib.hid h4; clear hown4 hg4 h4)
      all_goals
        go_wp2
        go_roundw
        case rel => exact ⟨k + 1, A4, cp4, by omega, by go_num, by rw [HV.out]; exact H4.out⟩
        case measure => first | (simp [intOf]; done) | (simp [intOf]; omega)
end
end Go.Proofs.Ytbhcemipjfdemaa

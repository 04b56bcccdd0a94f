/-
  Layer 12's laws: the law Zones.
-/
import Derived.Test.YtbhcemipjfdemaaLaI
import Derived.Test.YtbhcemipjfdemaaLaF
namespace Go.Proofs.Ytbhcemipjfdemaa
open Go.RowKit Geom Leaf Pol
set_option linter.unusedVariables false

set_option maxRecDepth 100000 in
set_option maxHeartbeats 16000000 in
theorem lalaw_zones (conv soft seq size opn : Int) (A : Option Addr) (n cap : Nat) (ps : List Int) (h0 h1 h2 : Int) (st m : Nat) (w : World) (hm : n ≤ maxLen) (hn : ps.length = n) (hr : Rd w w.heap.size A (is ps)) (hst : st ≤ 255) (hk : m ≤ 255) :
    Calls Try.prog 8 #[pgv conv soft seq size opn, ppv A n cap h0 h1 h2, .int .u8 st, .int .u8 m] w fun e w' => e = .returned (.bool true) ∧ Below w.heap.size w w' := by
  have H0 := Lib.hid (GP.new w conv soft seq size opn A n cap h0 h1 h2 23 27)
  have HR := Lib.hid fun w' (h : GP w w' conv soft seq size opn A n cap h0 h1 h2) => right12_any conv soft seq size opn A n cap ps h0 h1 h2 w' hm hn (hr.gp h)
  have HRy := Lib.hid fun h => rt_yes (conv := conv) (soft := soft) (seq := seq) (size := size) (opn := opn) (ps := ps) (h0 := h0) (h1 := h1) (h2 := h2) h
  have HN := Lib.hid hn
  have HRd := Lib.hid hr
  generalize rtB conv soft seq size opn ps h0 h1 h2 = rb at HR HRy
  clear hr hn hm
  go_enter Try.func8, Try.ntmps8
  go_wp2_with fail
  generalize World.alloc _ _ = w0 at H0 ⊢
  refine (awake12_any _).mono ?_
  rintro e w1 ⟨rfl, hb⟩
  have H1 := Lib.hid (GP.below H0.out hb)
  clear H0 hb
  obtain ⟨c0, c1, c2, c3, c4, cl⟩ := id H1.out.1
  obtain ⟨a0, a1, a2, a3, al⟩ := id H1.out.2.1
  go_wp2_with fail
  refine (HR.out _ H1.out).mono ?_
  rintro e w2 ⟨rfl, hb⟩
  have H2 := Lib.hid (GP.below H1.out hb)
  clear H1 hb c0 c1 c2 c3 c4 cl a0 a1 a2 a3 al
  cases rb
  · go_wp2_with fail
    refine (awake12_any _).mono ?_
    rintro e w9 ⟨rfl, hb9⟩
    have H9 := Lib.hid (GP.below H2.out hb9)
    clear hb9
    go_wp2
    go_ret
    exact ⟨rfl, H9.out.2.2⟩
  obtain ⟨hok, hs12, hz24, hRt⟩ := HRy.out (by first | trivial | rfl)
  have HS := Lib.hid hok.some
  have hn64 : n ≤ 64 := by have h := Ri.len hRt; have := HN.out; simp only at h; omega
  have HM := Lib.hid hn64
  have HRt := Lib.hid hRt
  have HSz := Lib.hid (And.intro hs12 hz24)
  clear hok hRt hs12 hz24 hn64
  have HS3 := Lib.hid (show st % 3 < 3 by omega)
  have HK := Lib.hid hk
  go_wp2
  rw [show ((st : Int) % 3) = ((st % 3 : Nat) : Int) by omega]
  generalize st % 3 = s at *
  go_loopw [10, 11] (fun V i wr => ∃ k : Nat, k ≤ m ∧ i = .int .i64 k ∧ wr.ownsRow w2.heap.size 3 1 V k (is (List.replicate k (s : Int))) ∧ Below w2.heap.size w2 wr) (fun _ i _ => m - (intOf i).toNat)
  case atStart => exact ⟨0, by omega, rfl, World.ownsRow_nil _ _ _ _, Below.refl _ _⟩
  case round =>
    obtain ⟨k, hk', rfl, hown, hbl⟩ := hrel
    have hkm := HK.out
    by_cases hlt : k < m
    · have hki : (k : Int) < (m : Int) := by omega
      have hsz' := hbl.size
      go_wp2_with (at_builtin; (refine wpList_append_one _ rfl _ _ _ rfl w2.heap.size 3 _ 8 pelemI u10 k (is (List.replicate k (s : Int))) rfl (.int .i64 s) rfl hown rfl (by simp only [maxLen]; omega) (by omega) hsz' ?_); intro v1 w3 hown1 hg1; have HO := Lib.hid (And.intro hown1 (hbl.grown hg1 hsz' fun g hg => (hown.lt g hg).1)); clear hown1 hg1)
      go_roundw
      case rel => exact ⟨k + 1, by omega, by go_num, by rw [rep_succ, pis_append]; exact HO.out.1, HO.out.2⟩
      case measure => first | (simp [intOf]; done) | (simp [intOf]; omega)
    obtain rfl : m = k := by omega
    have d0 : decide ((m : Int) < (m : Int)) = false := decide_eq_false (by omega)
    obtain ⟨As, cs, rfl⟩ := own_slice hown
    have HRs : Hid (Rd wr wr.heap.size As (isn (List.replicate m s))) := Lib.hid (by
      have h := Rd.own hown
      rw [show is (List.replicate m (s : Int)) = isn (List.replicate m s) by rw [isn, List.map_replicate]; rfl] at h
      exact h)
    have H3 := Lib.hid (GP.below H2.out hbl)
    have hp := fun x (hx : x ∈ List.replicate m s) => (show x < 3 by rw [List.eq_of_mem_replicate hx]; exact HS3.out)
    have HZo := Lib.hid fun w' (h : Rd w' w'.heap.size A (is ps)) => lzones_any conv soft seq size opn A n cap ⟨ps, h0, h1, h2⟩ s m w' HM.out HN.out HS.out HRt.out HS3.out (by omega) h
    have HFr := Lib.hid fun w' (h : Rd w' w'.heap.size A (is ps)) => lfree_any conv soft seq size opn A n cap ⟨ps, h0, h1, h2⟩ w' HM.out HN.out HS.out h
    have HPl := Lib.hid fun w' (h : Rd w' w'.heap.size A (is ps)) hs => lplan_any conv soft seq size opn A n cap ps h0 h1 h2 As m cs (List.replicate m s) w' HM.out HN.out HS.out HRt.out h hp (by simp) (by omega) hs
    obtain ⟨i1, i2⟩ := plan_rep HS.out HS3.out m ⟨ps, h0, h1, h2⟩ HRt.out
    have hnn := need_nn (size := size) (room := rm conv size ⟨ps, h0, h1, h2⟩ s) (n := (m : Int)) (by have := HS.out.2.2.2.1; omega)
    have hf0 : fr conv ⟨ps, h0, h1, h2⟩ ≤ n := fr_le conv n _ HN.out
    have HI : Hid (∀ l q, planX conv size (List.replicate m s) ⟨ps, h0, h1, h2⟩ = some (l, q) → l.length = m ∧ Rt conv seq size q ∧ q.ps.length = n ∧ need size (rm conv size ⟨ps, h0, h1, h2⟩ s) m + (fr conv q : Int) = (fr conv ⟨ps, h0, h1, h2⟩ : Int)) := Lib.hid fun l q h => by
      have h1' := plan_rt HS.out _ _ HRt.out hp l q h
      exact ⟨by rw [h1'.2.2.1, List.length_replicate], h1'.1, h1'.2.1.trans HN.out, (i2 l q h).1⟩
    have HJ := Lib.hid i1
    clear i1 i2 hp hown hbl
    generalize need size (rm conv size ⟨ps, h0, h1, h2⟩ s) m = zz at *
    generalize fr conv ⟨ps, h0, h1, h2⟩ = f at *
    generalize planX conv size (List.replicate m s) ⟨ps, h0, h1, h2⟩ = res at *
    obtain ⟨c0, c1, c2, c3, c4, cl⟩ := id H3.out.1
    obtain ⟨a0, a1, a2, a3, al⟩ := id H3.out.2.1
    go_wp2_with fail
    refine (HZo.out _ (Rd.gp HRd.out H3.out)).mono ?_
    rintro e w4 ⟨rfl, hb⟩
    have H4 := Lib.hid (GP.below H3.out hb)
    have HR4 := Lib.hid ((HRs.out.below hb).more hb.size)
    clear hb c0 c1 c2 c3 c4 cl a0 a1 a2 a3 al
    obtain ⟨c0, c1, c2, c3, c4, cl⟩ := id H4.out.1
    obtain ⟨a0, a1, a2, a3, al⟩ := id H4.out.2.1
    go_wp2_with fail
    refine (HPl.out _ (Rd.gp HRd.out H4.out) HR4.out).mono ?_
    clear c0 c1 c2 c3 c4 cl a0 a1 a2 a3 al
    rintro e w5 (⟨hres, g5, p5, rfl, hown, hb⟩ | ⟨l, q, hres, V, g5, p5, rfl, hV, hown, hb⟩)
    · have H5 := Lib.hid (GP.below H4.out hb)
      have hlt := HJ.out hres
      have dz : decide ((f : Int) < zz) = true := decide_eq_true hlt
      clear hb hown hres
      go_wp2_with (first
        | ((with_reducible refine wpList_pool_alloc (o := ⟨_, .alloc _, _, _, _, _⟩) rfl rfl ?_); intro u2 xb hu2 hs2; clear hs2)
        | ((with_reducible refine wpList_pool_store (o := ⟨none, .store _ _ _, _, _, _, _⟩) rfl _ _ rfl _ (some ⟨g5, 0, none⟩) none n 0 p5 0 h0 h1 h2 0 0 0 rfl rfl xb ?_); intro u4 xd hu4; have hv1 := hu2.grown hu4 hu2.size (fun k hk => by injection hk with hk; omega); have H6 := Lib.hid (GP.below H5.out hv1); have XQ := Lib.hid xd; clear xb hu2 hu4 hv1 xd; generalize w5.heap.size = bq at XQ ⊢; obtain ⟨c0, c1, c2, c3, c4, cl⟩ := id H6.out.1; obtain ⟨a0, a1, a2, a3, al⟩ := id H6.out.2.1)
        | fail)
      refine (HFr.out _ (Rd.gp HRd.out H6.out)).mono ?_
      rintro e w7 ⟨A7, c7, rfl, hb⟩
      have H7 := Lib.hid (GP.below H6.out hb)
      clear hb c0 c1 c2 c3 c4 cl a0 a1 a2 a3 al
      go_wp2
      go_ret
      exact ⟨rfl, H7.out.2.2⟩
    · have H5 := Lib.hid (GP.below H4.out hb)
      obtain ⟨hl, hRq, hqn, hzf⟩ := HI.out l q hres
      rw [hl] at hV
      obtain ⟨A5, c5, rfl⟩ := own_slice hV
      have O5 := Lib.hid hown
      have HQ := Lib.hid (And.intro hRq hqn)
      have HFq := Lib.hid fun w' c' (h : Rd w' w'.heap.size (some ⟨g5, 0, none⟩) (is q.ps)) => lfree_any conv soft seq size opn (some ⟨g5, 0, none⟩) n c' q w' HM.out HQ.out.2 HS.out h
      have hfq : fr conv q ≤ n := fr_le conv n q hqn
      have dz : decide (zz ≤ (f : Int)) = true := decide_eq_true (by omega)
      generalize fr conv q = fq at *
      have hwz := IntWalk.i64_in ((f : Int) - zz) (by have := HM.out; omega)
      have dq : ((fq : Int) == (f : Int) - zz) = true := by simp; omega
      generalize hk0 : q.h0 = k0 at *
      generalize hk1 : q.h1 = k1 at *
      generalize hk2 : q.h2 = k2 at *
      clear hb hown hres hRq hqn hzf hV hl hk0 hk1 hk2
      go_wp2_with (first
        | ((with_reducible refine wpList_pool_alloc (o := ⟨_, .alloc _, _, _, _, _⟩) rfl rfl ?_); intro u2 xb hu2 hs2; clear hs2)
        | ((with_reducible refine wpList_pool_store (o := ⟨none, .store _ _ _, _, _, _, _⟩) rfl _ _ rfl _ (some ⟨g5, 0, none⟩) none n 0 p5 0 k0 k1 k2 0 0 0 rfl rfl xb ?_); intro u4 xd hu4; have hv1 := hu2.grown hu4 hu2.size (fun k hk => by injection hk with hk; omega); have H6 := Lib.hid (GP.below H5.out hv1); have XQ := Lib.hid xd; have O6 := Lib.hid (own_below O5.out hv1); clear xb hu2 hu4 hv1 xd; generalize w5.heap.size = bq at XQ ⊢; obtain ⟨c0, c1, c2, c3, c4, cl⟩ := id H6.out.1; obtain ⟨a0, a1, a2, a3, al⟩ := id H6.out.2.1)
        | fail)
      refine (HFr.out _ (Rd.gp HRd.out H6.out)).mono ?_
      rintro e w7 ⟨A7, c7, rfl, hb⟩
      have H7 := Lib.hid (GP.below H6.out hb)
      have XQ7 := Lib.hid (XQ.out.on hb)
      have O7 := Lib.hid (own_below O6.out hb)
      clear hb c0 c1 c2 c3 c4 cl a0 a1 a2 a3 al
      obtain ⟨c0, c1, c2, c3, c4, cl⟩ := id H7.out.1
      obtain ⟨a0, a1, a2, a3, al⟩ := id H7.out.2.1
      obtain ⟨b0, b1, b2, b3, bl⟩ := XQ7.out.pool
      go_wp2_with fail
      refine (HFq.out _ _ (Rd.own O7.out)).mono ?_
      rintro e w8 ⟨A8, c8, rfl, hb⟩
      have H8 := Lib.hid (GP.below H7.out hb)
      clear hb b0 b1 b2 b3 bl c0 c1 c2 c3 c4 cl a0 a1 a2 a3 al
      go_wp2
      go_ret
      exact ⟨rfl, H8.out.2.2⟩
end Go.Proofs.Ytbhcemipjfdemaa

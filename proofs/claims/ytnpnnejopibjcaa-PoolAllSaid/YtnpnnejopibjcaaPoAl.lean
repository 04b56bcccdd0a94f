/-
  Layer 11's laws: the law All.
-/
import Derived.Test.YtnpnnejopibjcaaPoZ
namespace Go.Proofs.Ytnpnnejopibjcaa
open Go.RowKit Geom Leaf Pol Zone
set_option linter.unusedVariables false

/-- a step of a stream that has a place left; one of a stream that has none -/
theorem all_step (conv soft seq size opn : Int) (n : Nat) (ps : List Int) (h0 h1 h2 : Int) (s : Nat) (hm : n ≤ 64) (hn : ps.length = n) (S : Some conv seq size) (R : Ri conv seq size ps h0 h1 h2) (hs : s < 3) (hp : rem conv size ps h0 h1 h2 s ≠ 0) :
    ∃ (z x : Int) (qs : List Int) (k0 k1 k2 : Int), qs.length = n ∧ Ri conv seq size qs k0 k1 k2 ∧ rem conv size qs k0 k1 k2 s = rem conv size ps h0 h1 h2 s - 1 ∧
      (∀ (w : World) (A : Option Addr) (cap : Nat), Rd w w.heap.size A (is ps) → Calls Try.prog 16 #[pgv conv soft seq size opn, ppv A n cap h0 h1 h2, .int .i64 s] w fun e w' => ∃ g c, e = .returned (.tuple #[.agg #[.int .i64 z, .int .i64 x], ppv (some ⟨g, 0, none⟩) n c k0 k1 k2, .bool true]) ∧ w'.ownsRow w.heap.size 3 1 (.slice (some ⟨g, 0, none⟩) n c) n (is qs) ∧ Below w.heap.size w w') := by
  cases hq : Pol.pick conv ps h0 h1 h2 ps.length s with
  | none => exact absurd (R.rem_none S hs hq) hp
  | some z =>
    obtain ⟨j, x, rfl, G⟩ := R.go (by have := S.2.2.2.1; omega) hs hq
    exact ⟨conv + j, x, _, _, _, _, by rw [List.length_set]; exact hn, G.ri R S, G.rem S, fun w A cap hr => pstep_go conv soft seq size opn A n cap ps h0 h1 h2 s j x w hm hn S R hr G⟩
theorem all_end (conv soft seq size opn : Int) (n : Nat) (ps : List Int) (h0 h1 h2 : Int) (s : Nat) (hm : n ≤ 64) (hn : ps.length = n) (S : Some conv seq size) (R : Ri conv seq size ps h0 h1 h2) (hs : s < 3) (hp : rem conv size ps h0 h1 h2 s = 0) :
    hd h0 h1 h2 s = 0 ∧
      (∀ (w : World) (A : Option Addr) (cap : Nat), Rd w w.heap.size A (is ps) → Calls Try.prog 16 #[pgv conv soft seq size opn, ppv A n cap h0 h1 h2, .int .i64 s] w fun e w' => ∃ g c, e = .returned (.tuple #[.agg #[.int .i64 0, .int .i64 0], ppv (some ⟨g, 0, none⟩) n c h0 h1 h2, .bool false]) ∧ w'.ownsRow w.heap.size 3 1 (.slice (some ⟨g, 0, none⟩) n c) n (is ps) ∧ Below w.heap.size w w') ∧
      (∀ (w : World) (A : Option Addr) (cap : Nat), Rd w w.heap.size A (is ps) → Calls Try.prog 21 #[pgv conv soft seq size opn, ppv A n cap h0 h1 h2] w fun e w' => ∃ A' c, e = .returned (.slice A' 0 c) ∧ Below w.heap.size w w') := by
  obtain ⟨e1, e2⟩ := R.rem_zero S hs hp
  rw [hn] at e2
  refine ⟨e1, fun w A cap hr => pstep_none conv soft seq size opn A n cap ps h0 h1 h2 s w hm hn S R hr hs (by rw [pick_free e1, e2]; rfl), fun w A cap hr => ?_⟩
  have h := pfree_any conv soft seq size opn A n cap ps h0 h1 h2 w hm hn S hr
  rw [e2] at h
  exact h.mono fun e w' ⟨v, h1', h2', h3'⟩ => by
    obtain ⟨A', c, rfl⟩ := own_slice h2'
    exact ⟨A', c, h1', h3'⟩
/-- what stands in memory while a stream is used up -/
structure AlS (w w' : World) (conv soft seq size opn : Int) (A : Option Addr) (n cap : Nat) (h0 h1 h2 : Int) (bq : Nat) (A' : Option Addr) (c' : Nat) (qs : List Int) (k0 k1 k2 : Int) : Prop where
  gp : GP w w' conv soft seq size opn A n cap h0 h1 h2
  bx : Box w' bq 31 (plcs A' n c' k0 k1 k2)
  rd : Rd w' w'.heap.size A' (is qs)
  ln : qs.length = n
  ri : Ri conv seq size qs k0 k1 k2
  hb : w.heap.size + 1 < bq
set_option maxRecDepth 100000 in
set_option maxHeartbeats 16000000 in
theorem polaw_all (conv soft seq size opn : Int) (A : Option Addr) (n cap : Nat) (ps : List Int) (h0 h1 h2 : Int) (st : Nat) (w : World) (hm : n ≤ maxLen) (hn : ps.length = n) (hr : Rd w w.heap.size A (is ps)) (z0 : h0 < 9223372036854775808) (z1 : h1 < 9223372036854775808) (z2 : h2 < 9223372036854775808) (hst : st ≤ 255) :
    Calls Try.prog 7 #[pgv conv soft seq size opn, ppv A n cap h0 h1 h2, .int .u8 st] w fun e w' => e = .returned (.bool true) ∧ Below w.heap.size w w' := by
  have H0 := Lib.hid (GP.new w conv soft seq size opn A n cap h0 h1 h2 23 31)
  have HB := Lib.hid fun w => rright_any conv soft seq size opn w
  by_cases hok : Ok conv soft seq size opn
  rotate_left
  · rw [ok_no hok] at HB
    go_enter Try.func7, Try.ntmps7
    go_wp2_with fail
    generalize World.alloc _ _ = w0 at H0 ⊢
    refine (awake11_any _).mono ?_
    rintro e w1 ⟨rfl, hb⟩
    have H1 := Lib.hid (GP.below H0.out hb)
    obtain ⟨c0, c1, c2, c3, c4, cl⟩ := id H1.out.1
    clear H0 hb
    go_wp2_with fail
    refine (HB.out _).mono ?_
    rintro e w2 ⟨rfl, hb⟩
    have H2 := Lib.hid (GP.below H1.out hb)
    clear H1 hb c0 c1 c2 c3 c4 cl
    go_wp2_with fail
    refine (awake11_any _).mono ?_
    rintro e w9 ⟨rfl, hb9⟩
    have H9 := Lib.hid (GP.below H2.out hb9)
    clear hb9
    go_wp2
    go_ret
    exact ⟨rfl, H9.out.2.2⟩
  rw [ok_yes hok] at HB
  have HRR := Lib.hid fun w' (h : GP w w' conv soft seq size opn A n cap h0 h1 h2) => rpright_any conv soft seq size opn A n cap ps h0 h1 h2 w' hm hn hok.some (hr.gp h)
  have HRb := Lib.hid (right_iff (conv := conv) (seq := seq) (size := size) (ps := ps) (h0 := h0) (h1 := h1) (h2 := h2))
  have HR := Lib.hid hr
  have HS := Lib.hid hok.some
  have HN := Lib.hid hn
  have hbd := seats_bd hok.some
  have hwm := IntWalk.i64_in (seq * size) (by omega)
  clear z0 z1 z2 hok hr hn
  by_cases h4 : 400 < seq * size
  · have hd4 : decide (400 < seq * size) = true := decide_eq_true h4
    go_enter Try.func7, Try.ntmps7
    go_wp2_with fail
    generalize World.alloc _ _ = w0 at H0 ⊢
    refine (awake11_any _).mono ?_
    rintro e w1 ⟨rfl, hb⟩
    have H1 := Lib.hid (GP.below H0.out hb)
    obtain ⟨c0, c1, c2, c3, c4, cl⟩ := id H1.out.1
    clear H0 hb
    go_wp2_with fail
    refine (HB.out _).mono ?_
    rintro e w2 ⟨rfl, hb⟩
    have H2 := Lib.hid (GP.below H1.out hb)
    clear H1 hb c0 c1 c2 c3 c4 cl
    obtain ⟨c0, c1, c2, c3, c4, cl⟩ := id H2.out.1
    obtain ⟨a0, a1, a2, a3, al⟩ := id H2.out.2.1
    go_wp2_with fail
    refine (awake11_any _).mono ?_
    rintro e w9 ⟨rfl, hb9⟩
    have H9 := Lib.hid (GP.below H2.out hb9)
    clear hb9
    go_wp2
    go_ret
    exact ⟨rfl, H9.out.2.2⟩
  have hd4 : decide (400 < seq * size) = false := decide_eq_false h4
  generalize rightB conv seq size ps h0 h1 h2 = rb at HRR HRb
  cases rb
  · go_enter Try.func7, Try.ntmps7
    go_wp2_with fail
    generalize World.alloc _ _ = w0 at H0 ⊢
    refine (awake11_any _).mono ?_
    rintro e w1 ⟨rfl, hb⟩
    have H1 := Lib.hid (GP.below H0.out hb)
    obtain ⟨c0, c1, c2, c3, c4, cl⟩ := id H1.out.1
    clear H0 hb
    go_wp2_with fail
    refine (HB.out _).mono ?_
    rintro e w2 ⟨rfl, hb⟩
    have H2 := Lib.hid (GP.below H1.out hb)
    clear H1 hb c0 c1 c2 c3 c4 cl
    obtain ⟨c0, c1, c2, c3, c4, cl⟩ := id H2.out.1
    obtain ⟨a0, a1, a2, a3, al⟩ := id H2.out.2.1
    go_wp2_with fail
    refine (HRR.out _ H2.out).mono ?_
    rintro e w3 ⟨rfl, hb⟩
    have H3 := Lib.hid (GP.below H2.out hb)
    clear hb H2 c0 c1 c2 c3 c4 cl a0 a1 a2 a3 al
    go_wp2_with fail
    refine (awake11_any _).mono ?_
    rintro e w9 ⟨rfl, hb9⟩
    have H9 := Lib.hid (GP.below H3.out hb9)
    clear hb9
    go_wp2
    go_ret
    exact ⟨rfl, H9.out.2.2⟩
  have hR := HRb.out.1 rfl
  have hl := hR.len
  rw [HN.out] at hl
  have hn64 : n ≤ 64 := by have := HS.out.2.2.1; have := HS.out.1; omega
  have hn6 : 6 ≤ n := by have := HS.out.2.1; omega
  obtain ⟨rm, hrm, rm0, rm1, HRo, _⟩ := both_room conv soft seq size opn n ps h0 h1 h2 (st % 3) hn64 HN.out HS.out hR (by omega)
  have HFr := fun w' (h : Rd w' w'.heap.size A (is ps)) => pfree_any conv soft seq size opn A n cap ps h0 h1 h2 w' hn64 HN.out HS.out h
  have hre : rem conv size ps h0 h1 h2 (st % 3) = rm + size * ((freeX conv ps h0 h1 h2 n).length : Int) := by unfold rem nfr; rw [HN.out, ← hrm]
  have hl0 : (freeX conv ps h0 h1 h2 n).length ≤ 64 := Nat.le_trans (Nat.le_trans (List.length_filter_le _ _) (zones_le _ _ _ _)) hn64
  generalize freeX conv ps h0 h1 h2 n = fl at *
  have hml : 0 ≤ size * (fl.length : Int) ∧ size * (fl.length : Int) ≤ 256 * 64 := ⟨Int.mul_nonneg (by have := HS.out.2.2.2.1; omega) (by omega), Int.mul_le_mul HS.out.2.2.2.2 (by omega) (by omega) (by omega)⟩
  have hs256 := HS.out.2.2.2.2
  have hw1 := IntWalk.i64_in (size * (fl.length : Int)) (by omega)
  have hw2 := IntWalk.i64_in (rm + size * (fl.length : Int)) (by omega)
  obtain ⟨N, hN⟩ : ∃ N : Nat, rm + size * (fl.length : Int) = N := ⟨(rm + size * (fl.length : Int)).toNat, by omega⟩
  have hN6 : N ≤ 16640 := by omega
  rw [hN] at hre hw2
  have HRi := Lib.hid hR
  have HRm := Lib.hid hre
  have HRo := Lib.hid HRo
  have HFr := Lib.hid HFr
  have HM0 := Lib.hid (show fl.length ≤ maxLen by simp only [maxLen]; omega)
  have HN64 := Lib.hid hn64
  have HN6 := Lib.hid hn6
  have HS3 := Lib.hid (show st % 3 < 3 by omega)
  clear hR hl hrm rm0 rm1 hl0 hml hs256 hn64 hn6 hre
  go_enter Try.func7, Try.ntmps7
  go_wp2_with fail
  generalize World.alloc _ _ = w0 at H0 ⊢
  refine (awake11_any _).mono ?_
  rintro e w1 ⟨rfl, hb⟩
  have H1 := Lib.hid (GP.below H0.out hb)
  obtain ⟨c0, c1, c2, c3, c4, cl⟩ := id H1.out.1
  clear H0 hb
  go_wp2_with fail
  refine (HB.out _).mono ?_
  rintro e w2 ⟨rfl, hb⟩
  have H2 := Lib.hid (GP.below H1.out hb)
  clear H1 hb c0 c1 c2 c3 c4 cl
  obtain ⟨c0, c1, c2, c3, c4, cl⟩ := id H2.out.1
  obtain ⟨a0, a1, a2, a3, al⟩ := id H2.out.2.1
  go_wp2_with fail
  refine (HRR.out _ H2.out).mono ?_
  rintro e w3 ⟨rfl, hb⟩
  have H3 := Lib.hid (GP.below H2.out hb)
  clear hb H2 c0 c1 c2 c3 c4 cl a0 a1 a2 a3 al
  obtain ⟨c0, c1, c2, c3, c4, cl⟩ := id H3.out.1
  obtain ⟨a0, a1, a2, a3, al⟩ := id H3.out.2.1
  go_wp2_with fail
  rw [show ((st : Int) % 3) = ((st % 3 : Nat) : Int) by omega]
  generalize st % 3 = s at *
  have RD := Lib.hid fun w' (h : Below w3.heap.size w3 w') => Rd.gp HR.out (GP.below H3.out h)
  have SO := Lib.hid fun w' (h : Below w3.heap.size w3 w') => (fun (g : GP w w' conv soft seq size opn A n cap h0 h1 h2) => (⟨g.1.1, g.1.2.1, g.1.2.2.1, g.1.2.2.2.1, g.1.2.2.2.2.1, g.2.1.1, g.2.1.2.1, g.2.1.2.2.1, g.2.1.2.2.2.1⟩ :
    w'.cell? ⟨w.heap.size, 0, none⟩ = some (.int .i64 conv) ∧ w'.cell? ⟨w.heap.size, 1, none⟩ = some (.int .i64 soft) ∧ w'.cell? ⟨w.heap.size, 2, none⟩ = some (.int .i64 seq) ∧ w'.cell? ⟨w.heap.size, 3, none⟩ = some (.int .i64 size) ∧ w'.cell? ⟨w.heap.size, 4, none⟩ = some (.int .i64 opn) ∧ w'.cell? ⟨w.heap.size + 1, 0, none⟩ = some (.slice A n cap) ∧ w'.cell? ⟨w.heap.size + 1, 1, none⟩ = some (.int .i64 h0) ∧ w'.cell? ⟨w.heap.size + 1, 2, none⟩ = some (.int .i64 h1) ∧ w'.cell? ⟨w.heap.size + 1, 3, none⟩ = some (.int .i64 h2))) (GP.below H3.out h)
  clear c0 c1 c2 c3 c4 cl a0 a1 a2 a3 al
  go_region_held3 (fun w' => w'.cell? ⟨w.heap.size, 0, none⟩ = some (.int .i64 conv) ∧ w'.cell? ⟨w.heap.size, 1, none⟩ = some (.int .i64 soft) ∧ w'.cell? ⟨w.heap.size, 2, none⟩ = some (.int .i64 seq) ∧ w'.cell? ⟨w.heap.size, 3, none⟩ = some (.int .i64 size) ∧ w'.cell? ⟨w.heap.size, 4, none⟩ = some (.int .i64 opn) ∧ w'.cell? ⟨w.heap.size + 1, 0, none⟩ = some (.slice A n cap) ∧ w'.cell? ⟨w.heap.size + 1, 1, none⟩ = some (.int .i64 h0) ∧ w'.cell? ⟨w.heap.size + 1, 2, none⟩ = some (.int .i64 h1) ∧ w'.cell? ⟨w.heap.size + 1, 3, none⟩ = some (.int .i64 h2))
    (first | exact SO.out _ B2 | exact SO.out _ B1 | exact SO.out _ (Below.refl _ _).drew)
    ((first
      | ((with_reducible refine (HRo.out _ _ _ (RD.out _ (Below.refl _ _).drew)).mono ?_); rintro e y1 ⟨rfl, b1⟩; have B1 : Below w3.heap.size w3 y1 := bthen (Below.refl _ _).drew b1)
      | ((with_reducible refine (HFr.out _ (RD.out _ B1)).mono ?_); rintro e y2 ⟨V2, rfl, o2, b2⟩; obtain ⟨A2, q2, rfl⟩ := own_slice o2; have B2 : Below w3.heap.size w3 y2 := bthen B1 b2)))
  have H4 := Lib.hid (GP.below H3.out B2)
  obtain ⟨a0, a1, a2, a3, al⟩ := id H4.out.2.1
  go_wp2_with (first
    | ((with_reducible refine wpList_pool_alloc (o := ⟨_, .alloc _, _, _, _, _⟩) rfl rfl ?_); intro u2 xb hu2 hs2)
    | ((with_reducible refine wpList_pool_store (o := ⟨none, .store _ _ _, _, _, _, _⟩) rfl _ _ rfl _ A none n 0 cap 0 h0 h1 h2 0 0 0 rfl rfl xb ?_); intro u4 xd hu4; have hv1 := hu2.grown hu4 hu2.size (fun k hk => by injection hk with hk; omega); clear xb hu2 hs2 hu4; generalize hbp : y2.heap.size = bp5 at xd ⊢; have H5 := Lib.hid (GP.below H4.out hv1); clear H4; have XQ5 := Lib.hid xd; have BQ := Lib.hid (show w.heap.size + 1 < bp5 by rw [← hbp]; exact al); clear hv1 xd hbp a0 a1 a2 a3 al o2 b1 b2 B1 B2; skip)
    | fail)
  have K0 := Lib.hid (AlS.mk H5.out XQ5.out (Rd.gp HR.out H5.out) HN.out HRi.out BQ.out)
  clear H5 XQ5 BQ
  go_wp2_with fail
  go_loopw [10] (fun i wr => ∃ (k : Nat) (A' : Option Addr) (c' : Nat) (qs : List Int) (k0 k1 k2 : Int), k ≤ N ∧ i = .int .i64 k ∧ AlS w wr conv soft seq size opn A n cap h0 h1 h2 bp5 A' c' qs k0 k1 k2 ∧ rem conv size qs k0 k1 k2 s = (N : Int) - k) (fun i _ => N - (intOf i).toNat)
  case atStart => exact ⟨0, _, _, _, _, _, _, by omega, rfl, K0.out, by rw [HRm.out]; omega⟩
  case round =>
    obtain ⟨k, A1, c1, qs, k0, k1, k2, hk, rfl, hK, hrm⟩ := hrel
    have K1 := Lib.hid hK
    clear hK K0
    obtain ⟨c0, c1', c2, c3, c4, cl⟩ := id K1.out.gp.1
    obtain ⟨b0, b1, b2, b3, bl⟩ := K1.out.bx.pool
    by_cases hlt : k < N
    · obtain ⟨z, x, qs', m0, m1, m2, hl', hR', hrm', hSt⟩ := all_step conv soft seq size opn n qs k0 k1 k2 s HN64.out K1.out.ln HS.out K1.out.ri HS3.out (by omega)
      rw [hrm] at hrm'
      have HSt := Lib.hid hSt
      have HL' := Lib.hid hl'
      have HR' := Lib.hid hR'
      have HM' := Lib.hid hrm'
      clear hSt hl' hR' hrm' hrm
      go_wp2_with fail
      refine (HSt.out _ _ _ K1.out.rd).mono ?_
      rintro e w6 ⟨g6, p6, rfl, hown, hb⟩
      have HG6 := Lib.hid (GP.below K1.out.gp hb)
      have XQ6 := Lib.hid (K1.out.bx.on hb)
      have OO6 := Lib.hid hown
      have G6 := Lib.hid (show bp5 < g6 by obtain ⟨g', hA, h1', _⟩ := own_at hown (by have := HN6.out; omega); obtain rfl : g6 = g' := by injection hA with h; injection h
                                           have := K1.out.bx.lt; omega)
      clear hb hown c0 c1' c2 c3 c4 cl b0 b1 b2 b3 bl HSt
      go_wp2_with (first
        | ((with_reducible refine wpList_pat_alloc (o := ⟨_, .alloc _, _, _, _, _⟩) rfl rfl ?_); intro u1 xa hu1 hs1)
        | ((with_reducible refine wpList_pool_alloc (o := ⟨_, .alloc _, _, _, _, _⟩) rfl rfl ?_); intro u2 xb hu2 hs2; have xa2 := xa.on hu2)
        | ((with_reducible refine wpList_pat_store (o := ⟨none, .store _ _ _, _, _, _, _⟩) rfl _ _ rfl _ z x 0 0 rfl rfl xa2 ?_); intro u3 xc hu3; have xb3 := xb.grown hu3 (xb.ne xa2 (by decide)))
        | ((with_reducible refine wpList_pool_store (o := ⟨none, .store _ _ _, _, _, _, _⟩) rfl _ _ rfl _ (some ⟨g6, 0, none⟩) none n 0 p6 0 m0 m1 m2 0 0 0 rfl rfl xb3 ?_); intro u4 xd hu4; have hv := vars_laid hu1 hs1 hu2 hu3 hu4 xc xd; clear xa xb xa2 xb3 xc xd hu1 hs1 hu2 hs2 hu3 hu4; generalize u1.heap.size = bp7 at hv ⊢; generalize hba : w6.heap.size = ba7 at hv ⊢; have hv1 := hv.1; rw [← hba] at hv1; have HG7 := Lib.hid (GP.below HG6.out hv1); have XQ7 := Lib.hid (XQ6.out.on hv1); have OO7 := Lib.hid (own_below OO6.out hv1); clear HG6 XQ6 OO6; have XA7 := Lib.hid hv.2.1; have XP7 := Lib.hid hv.2.2; clear hv hv1 hba; obtain ⟨d0, d1, d2, d3, dl⟩ := XP7.out.pool)
        | ((with_reducible refine wpList_pool_store (o := ⟨none, .store _ _ _, _, _, _, _⟩) rfl _ _ rfl _ (some ⟨g6, 0, none⟩) A1 n n p6 c1 m0 m1 m2 k0 k1 k2 rfl rfl XQ7.out ?_); intro v4 xe hv4; have AF := Lib.hid (AlS.mk (HG7.out.grown hv4 K1.out.hb) xe (Rd.own (own_grown OO7.out hv4 (by have := G6.out; omega))) HL'.out HR'.out K1.out.hb); clear xe hv4)
        | fail)
      go_roundw
      case rel => exact ⟨k + 1, some ⟨g6, 0, none⟩, p6, qs', m0, m1, m2, by omega, by go_num, AF.out, by rw [HM'.out]; omega⟩
      case measure => first | (simp [intOf]; done) | (simp [intOf]; omega)
    · obtain ⟨e1, hEn, hFe⟩ := all_end conv soft seq size opn n qs k0 k1 k2 s HN64.out K1.out.ln HS.out K1.out.ri HS3.out (by omega)
      have hdk : decide ((k : Int) < (N : Int)) = false := decide_eq_false (by omega)
      have HEn := Lib.hid hEn
      have HFe := Lib.hid hFe
      have HE1 := Lib.hid e1
      clear hEn hFe e1 hrm
      go_wp2_with fail
      refine (HEn.out _ _ _ K1.out.rd).mono ?_
      rintro e w6 ⟨g6, p6, rfl, hown, hb⟩
      have HG6 := Lib.hid (GP.below K1.out.gp hb)
      have XQ6 := Lib.hid (K1.out.bx.on hb)
      have RD6 := Lib.hid ((K1.out.rd.below hb).more hb.size)
      clear hb hown c0 c1' c2 c3 c4 cl b0 b1 b2 b3 bl HEn
      go_wp2_with (first
        | ((with_reducible refine wpList_pat_alloc (o := ⟨_, .alloc _, _, _, _, _⟩) rfl rfl ?_); intro u1 xa hu1 hs1)
        | ((with_reducible refine wpList_pool_alloc (o := ⟨_, .alloc _, _, _, _, _⟩) rfl rfl ?_); intro u2 xb hu2 hs2; have xa2 := xa.on hu2)
        | ((with_reducible refine wpList_pat_store (o := ⟨none, .store _ _ _, _, _, _, _⟩) rfl _ _ rfl _ 0 0 0 0 rfl rfl xa2 ?_); intro u3 xc hu3; have xb3 := xb.grown hu3 (xb.ne xa2 (by decide)))
        | ((with_reducible refine wpList_pool_store (o := ⟨none, .store _ _ _, _, _, _, _⟩) rfl _ _ rfl _ (some ⟨g6, 0, none⟩) none n 0 p6 0 k0 k1 k2 0 0 0 rfl rfl xb3 ?_); intro u4 xd hu4; have hv := vars_laid hu1 hs1 hu2 hu3 hu4 xc xd; clear xa xb xa2 xb3 xc xd hu1 hs1 hu2 hs2 hu3 hu4; generalize u1.heap.size = bp7 at hv ⊢; generalize hba : w6.heap.size = ba7 at hv ⊢; have hv1 := hv.1; rw [← hba] at hv1; have HG7 := Lib.hid (GP.below HG6.out hv1); have XQ7 := Lib.hid (XQ6.out.on hv1); have RD7 := Lib.hid ((RD6.out.below hv1).more hv1.size); clear HG6 XQ6 RD6; have XA7 := Lib.hid hv.2.1; have XP7 := Lib.hid hv.2.2; clear hv hv1 hba; obtain ⟨c0, c1', c2, c3, c4, cl⟩ := id HG7.out.1; obtain ⟨b0, b1, b2, b3, bl⟩ := XQ7.out.pool)
        | fail)
      refine (HFe.out _ _ _ RD7.out).mono ?_
      rintro e w8 ⟨A8, c8, rfl, hb⟩
      have HG8 := Lib.hid (GP.below HG7.out hb)
      have XQ8 := Lib.hid (XQ7.out.on hb)
      clear hb c0 c1' c2 c3 c4 cl b0 b1 b2 b3 bl
      obtain ⟨b0, b1, b2, b3, bl⟩ := XQ8.out.pool
      have ch := (XQ8.out.pool.head HS3.out).trans (by rw [HE1.out])
      have hs3I : (s : Int) < 3 := by have := HS3.out; omega
      go_wp2
      go_ret
      exact ⟨rfl, HG8.out.2.2⟩
end Go.Proofs.Ytnpnnejopibjcaa

/-
  Layer 12's laws: the law Plans.
-/
import Derived.Test.YtbhcemipjfdemaaLaI
import Derived.Test.YtbhcemipjfdemaaLaG
namespace Go.Proofs.Ytbhcemipjfdemaa
open Go.RowKit Geom Leaf Pol
set_option linter.unusedVariables false

theorem rsame_refl (A : Option Addr) (c : Nat) (A' : Option Addr) (c' len : Nat) (w : World) (hl : len ≤ maxLen) (xs : List (Int × Int)) (hx : xs.length = len) (B : Nat) (hr : Rd w B A (ccs xs)) (hr' : Rd w B A' (ccs xs)) :
    Calls Try.prog 15 #[.slice A len c, .slice A' len c'] w fun e w' => e = .returned (.bool true) ∧ ∃ n, w.drewN n = w' := by
  have h := rsame_any A A' len c len c' w hl hl xs xs hx hx B hr hr'
  rw [beq_self_eq_true] at h
  exact h
theorem psame_refl_any (A A' : Option Addr) (n c c' : Nat) (h0 h1 h2 : Int) (ps : List Int) (w : World) (hm : n ≤ maxLen) (hn : ps.length = n) (hr : Rd w w.heap.size A (is ps)) (hr' : Rd w w.heap.size A' (is ps)) :
    Calls Try.prog 16 #[ppv A n c h0 h1 h2, ppv A' n c' h0 h1 h2] w fun e w' => e = .returned (.bool true) ∧ Below w.heap.size w w' := by
  have h := rpsame_any A A' n c n c' h0 h1 h2 h0 h1 h2 ps ps w hm hm hn hn hr hr'
  rw [psame_refl] at h
  exact h
set_option maxRecDepth 100000 in
set_option maxHeartbeats 16000000 in
theorem lalaw_plans (conv soft seq size opn : Int) (A : Option Addr) (n cap : Nat) (ps : List Int) (h0 h1 h2 : Int) (As : Option Addr) (m cs : Nat) (xs : List Int) (st : Nat) (x : Int) (w : World) (hm : n ≤ maxLen) (hn : ps.length = n) (hr : Rd w w.heap.size A (is ps)) (hms : m ≤ maxLen) (hsl : xs.length = m) (hrs : Rd w w.heap.size As (is xs)) (hst : st ≤ 255) :
    Calls Try.prog 3 #[pgv conv soft seq size opn, ppv A n cap h0 h1 h2, .slice As m cs, .int .u8 st, .int .i64 x] w fun e w' => e = .returned (.bool true) ∧ Below w.heap.size w w' := by
  have H0 := Lib.hid (GP.new w conv soft seq size opn A n cap h0 h1 h2 23 27)
  have HR := Lib.hid fun w' (h : GP w w' conv soft seq size opn A n cap h0 h1 h2) => right12_any conv soft seq size opn A n cap ps h0 h1 h2 w' hm hn (hr.gp h)
  have HRy := Lib.hid fun h => rt_yes (conv := conv) (soft := soft) (seq := seq) (size := size) (opn := opn) (ps := ps) (h0 := h0) (h1 := h1) (h2 := h2) h
  have HN := Lib.hid hn
  have HRd := Lib.hid hr
  have HXr := Lib.hid hrs
  have HXl := Lib.hid hsl
  generalize rtB conv soft seq size opn ps h0 h1 h2 = rb at HR HRy
  have HCs := Lib.hid fun w' (h : GP w w' conv soft seq size opn A n cap h0 h1 h2) => few12_any As m cs xs w' hms hsl w.heap.size (hrs.below h.2.2)
  have HYs := Lib.hid fun h => few_yes (xs := xs) h
  generalize fewB xs = ts at HCs HYs
  have HCx := Lib.hid fun w => num12_any x w
  have HYx := Lib.hid fun h => num_yes (x := x) h
  generalize numB x = tx at HCx HYx
  clear hr hn hm
  go_enter Try.func3, Try.ntmps3
  go_wp2_with fail
  generalize World.alloc _ _ = w0 at H0 ⊢
  refine (awake12_any _).mono ?_
  rintro e w1 ⟨rfl, hb⟩
  have H1 := Lib.hid (GP.below H0.out hb)
  clear H0 hb
  obtain ⟨c0, c1, c2, c3, c4, cl⟩ := id H1.out.1
  obtain ⟨a0, a1, a2, a3, al⟩ := id H1.out.2.1
  go_wp2_with fail
  refine (HR.out _ H1.out).mono ?_
  rintro e w2 ⟨rfl, hb⟩
  have H2 := Lib.hid (GP.below H1.out hb)
  clear H1 hb c0 c1 c2 c3 c4 cl a0 a1 a2 a3 al
  cases rb
  · go_wp2_with fail
    refine (awake12_any _).mono ?_
    rintro e w9 ⟨rfl, hb9⟩
    have H9 := Lib.hid (GP.below H2.out hb9)
    clear hb9
    go_wp2
    go_ret
    exact ⟨rfl, H9.out.2.2⟩
  go_wp2_with fail
  refine (HCs.out w2 H2.out).mono ?_
  rintro e w3 ⟨rfl, rfl⟩
  cases ts
  · go_wp2_with fail
    refine (awake12_any _).mono ?_
    rintro e w9 ⟨rfl, hb9⟩
    have H9 := Lib.hid (GP.below H2.out hb9)
    clear hb9
    go_wp2
    go_ret
    exact ⟨rfl, H9.out.2.2⟩
  go_wp2_with fail
  refine (HCx.out w2).mono ?_
  rintro e w3 ⟨rfl, rfl⟩
  cases tx
  · go_wp2_with fail
    refine (awake12_any _).mono ?_
    rintro e w9 ⟨rfl, hb9⟩
    have H9 := Lib.hid (GP.below H2.out hb9)
    clear hb9
    go_wp2
    go_ret
    exact ⟨rfl, H9.out.2.2⟩
  obtain ⟨hok, hs12, hz24, hRt⟩ := HRy.out (by first | trivial | rfl)
  have HS := Lib.hid hok.some
  have hn64 : n ≤ 64 := by have h := Ri.len hRt; have := HN.out; simp only at h; omega
  have HM := Lib.hid hn64
  have HRt := Lib.hid hRt
  have HSz := Lib.hid (And.intro hs12 hz24)
  clear hok hRt hs12 hz24 hn64
  obtain ⟨ss, rfl, hs3, hl3⟩ := HYs.out (by first | trivial | rfl)
  obtain ⟨kn, rfl, hkn⟩ := HYx.out (by first | trivial | rfl)
  have HS3 := Lib.hid (show st % 3 < 3 by omega)
  have HKn := Lib.hid hkn
  have HSs := Lib.hid hs3
  have HSl : Hid (ss.length = m) := Lib.hid (by simpa using HXl.out)
  have HRs := Lib.hid fun w' (h : GP w w' conv soft seq size opn A n cap h0 h1 h2) => Rd.gp HXr.out h
  have hm300 : m ≤ 300 := by have := HSl.out; omega
  have HM3 := Lib.hid hm300
  have HZo := Lib.hid fun w' (h : Rd w' w'.heap.size A (is ps)) => lzones_any conv soft seq size opn A n cap ⟨ps, h0, h1, h2⟩ (st % 3) kn w' HM.out HN.out HS.out HRt.out HS3.out (by omega) h
  have HZr := Lib.hid fun w' (h : Rd w' w'.heap.size A (is ps)) => rlzones_any conv soft seq size opn A n cap ⟨ps, h0, h1, h2⟩ (st % 3) kn w' HM.out HN.out HS.out HRt.out HS3.out (by omega) h
  have HKe := Lib.hid fun w' (h : Rd w' w'.heap.size A (is ps)) => lkeep_any conv soft seq size opn A n cap ⟨ps, h0, h1, h2⟩ w' HM.out HN.out HS.out HRt.out h
  have HKr := Lib.hid fun w' => rlkeep_any conv soft seq size opn A n cap ⟨ps, h0, h1, h2⟩ w' HS.out HRt.out
  have HPl := Lib.hid fun w' (h : Rd w' w'.heap.size A (is ps)) hs => lplan_any conv soft seq size opn A n cap ps h0 h1 h2 As m cs ss w' HM.out HN.out HS.out HRt.out h HSs.out HSl.out (by omega) hs
  have HPr := Lib.hid fun w' (h : Rd w' w'.heap.size A (is ps)) hs => rlplan_any conv soft seq size opn A n cap ps h0 h1 h2 As m cs ss w' HM.out HN.out HS.out HRt.out h HSs.out HSl.out (by omega) hs
  have HQn : Hid (∀ l q, planX conv size ss ⟨ps, h0, h1, h2⟩ = some (l, q) → q.ps.length = n ∧ l.length ≤ 300) := Lib.hid fun l q h => by
    have h1' := plan_rt HS.out _ _ HRt.out HSs.out l q h
    exact ⟨h1'.2.1.trans HN.out, by rw [h1'.2.2.1]; exact hl3⟩
  generalize planX conv size ss ⟨ps, h0, h1, h2⟩ = res at *
  generalize need size (rm conv size ⟨ps, h0, h1, h2⟩ (st % 3)) kn = zz at *
  generalize keepN conv size ⟨ps, h0, h1, h2⟩ = kp at *
  have hqz : (zz == zz) = true := beq_self_eq_true _
  have hqk : (kp == kp) = true := beq_self_eq_true _
  clear hs3 hl3 hkn hm300
  obtain ⟨c0, c1, c2, c3, c4, cl⟩ := id H2.out.1
  obtain ⟨a0, a1, a2, a3, al⟩ := id H2.out.2.1
  go_wp2_with fail
  refine (HPl.out _ (Rd.gp HRd.out H2.out) (HRs.out _ H2.out)).mono ?_
  clear c0 c1 c2 c3 c4 cl a0 a1 a2 a3 al
  have HNm : Hid (n ≤ maxLen) := Lib.hid (by have := HM.out; simp only [maxLen]; omega)
  rintro e w5 (⟨hres, g5, p5, rfl, hown, hb⟩ | ⟨l, q, hres, V, g5, p5, rfl, hV, hown, hb⟩)
  · subst hres
    have H5 := Lib.hid (GP.below H2.out hb)
    have O5 := Lib.hid hown
    clear hb hown
    go_wp2_with (first
      | ((with_reducible refine wpList_pool_alloc (o := ⟨_, .alloc _, _, _, _, _⟩) rfl rfl ?_); intro u2 xb hu2 hs2; clear hs2)
      | ((with_reducible refine wpList_pool_store (o := ⟨none, .store _ _ _, _, _, _, _⟩) rfl _ _ rfl _ (some ⟨g5, 0, none⟩) none n 0 p5 0 h0 h1 h2 0 0 0 rfl rfl xb ?_); intro u4 xd hu4; have hv1 := hu2.grown hu4 hu2.size (fun k hk => by injection hk with hk; omega); have H6 := Lib.hid (GP.below H5.out hv1); have XQ := Lib.hid xd; have O6 := Lib.hid (own_below O5.out hv1); clear xb hu2 hu4 hv1 xd; generalize w5.heap.size = bXQ at *; obtain ⟨c0, c1, c2, c3, c4, cl⟩ := id H6.out.1; obtain ⟨a0, a1, a2, a3, al⟩ := id H6.out.2.1)
      | fail)
    refine (HPr.out _ (Rd.gp HRd.out H6.out) (HRs.out _ H6.out)).mono ?_
    clear c0 c1 c2 c3 c4 cl a0 a1 a2 a3 al
    rintro e w7 (⟨_, rfl, hb⟩ | ⟨l, q, hres, _⟩)
    rotate_left
    · cases hres
    have H7 := Lib.hid (GP.below H6.out hb)
    have XQ7 := Lib.hid (XQ.out.on hb)
    have O7 := Lib.hid (own_below O6.out hb)
    clear hb
    go_wp2_with (first
      | ((with_reducible refine wpList_pool_alloc (o := ⟨_, .alloc _, _, _, _, _⟩) rfl rfl ?_); intro u2 xb hu2 hs2; clear hs2)
      | ((with_reducible refine wpList_pool_store (o := ⟨none, .store _ _ _, _, _, _, _⟩) rfl _ _ rfl _ A none n 0 cap 0 h0 h1 h2 0 0 0 rfl rfl xb ?_); intro u4 xd hu4; have hv1 := hu2.grown hu4 hu2.size (fun k hk => by injection hk with hk; omega); have H8 := Lib.hid (GP.below H7.out hv1); have XR := Lib.hid xd; have XQ8 := Lib.hid (XQ7.out.on hv1); have RQ8 := Lib.hid (Rd.own (own_below O7.out hv1)); clear xb hu2 hu4 hv1 xd; generalize w7.heap.size = bXR at *; skip)
      | fail)
    have RR8 := Lib.hid (Rd.gp HRd.out H8.out)
    have RV8 : Hid (Rd u4 u4.heap.size none (ccs [])) := Lib.hid (fun h => absurd rfl h)
    have RW8 := RV8
    have RD := Lib.hid fun w' (h : Below u4.heap.size u4 w') => Rd.gp HRd.out (GP.below H8.out h)
    have SO := Lib.hid fun w' (h : Below u4.heap.size u4 w') => (fun (g : GP w w' conv soft seq size opn A n cap h0 h1 h2) (x : Box w' bXQ 27 (plcs (some ⟨g5, 0, none⟩) n p5 h0 h1 h2)) (y : Box w' bXR 27 (plcs A n cap h0 h1 h2)) => (⟨g.1.1, g.1.2.1, g.1.2.2.1, g.1.2.2.2.1, g.1.2.2.2.2.1, g.2.1.1, g.2.1.2.1, g.2.1.2.2.1, g.2.1.2.2.2.1, x.cell 0, x.cell 1, x.cell 2, x.cell 3, y.cell 0, y.cell 1, y.cell 2, y.cell 3⟩ :
      w'.cell? ⟨w.heap.size, 0, none⟩ = some (.int .i64 conv) ∧ w'.cell? ⟨w.heap.size, 1, none⟩ = some (.int .i64 soft) ∧ w'.cell? ⟨w.heap.size, 2, none⟩ = some (.int .i64 seq) ∧ w'.cell? ⟨w.heap.size, 3, none⟩ = some (.int .i64 size) ∧ w'.cell? ⟨w.heap.size, 4, none⟩ = some (.int .i64 opn) ∧ w'.cell? ⟨w.heap.size + 1, 0, none⟩ = some (.slice A n cap) ∧ w'.cell? ⟨w.heap.size + 1, 1, none⟩ = some (.int .i64 h0) ∧ w'.cell? ⟨w.heap.size + 1, 2, none⟩ = some (.int .i64 h1) ∧ w'.cell? ⟨w.heap.size + 1, 3, none⟩ = some (.int .i64 h2) ∧ w'.cell? ⟨bXQ, 0, none⟩ = some (.slice (some ⟨g5, 0, none⟩) n p5) ∧ w'.cell? ⟨bXQ, 1, none⟩ = some (.int .i64 h0) ∧ w'.cell? ⟨bXQ, 2, none⟩ = some (.int .i64 h1) ∧ w'.cell? ⟨bXQ, 3, none⟩ = some (.int .i64 h2) ∧ w'.cell? ⟨bXR, 0, none⟩ = some (.slice A n cap) ∧ w'.cell? ⟨bXR, 1, none⟩ = some (.int .i64 h0) ∧ w'.cell? ⟨bXR, 2, none⟩ = some (.int .i64 h1) ∧ w'.cell? ⟨bXR, 3, none⟩ = some (.int .i64 h2))) (GP.below H8.out h) (XQ8.out.on h) (XR.out.on h)
    have RQ := Lib.hid fun w' (h : Below u4.heap.size u4 w') => (RQ8.out.below h).more h.size
    have RR := Lib.hid fun w' (h : Below u4.heap.size u4 w') => (RR8.out.below h).more h.size
    have RV := Lib.hid fun w' (h : Below u4.heap.size u4 w') => (RV8.out.below h).more h.size
    have RW := Lib.hid fun w' (h : Below u4.heap.size u4 w') => (RW8.out.below h).more h.size
    go_wp2_with fail
    rw [show ((st : Int) % 3) = ((st % 3 : Nat) : Int) by omega]
    generalize st % 3 = s at *
    go_region_held3 (fun w' => w'.cell? ⟨w.heap.size, 0, none⟩ = some (.int .i64 conv) ∧ w'.cell? ⟨w.heap.size, 1, none⟩ = some (.int .i64 soft) ∧ w'.cell? ⟨w.heap.size, 2, none⟩ = some (.int .i64 seq) ∧ w'.cell? ⟨w.heap.size, 3, none⟩ = some (.int .i64 size) ∧ w'.cell? ⟨w.heap.size, 4, none⟩ = some (.int .i64 opn) ∧ w'.cell? ⟨w.heap.size + 1, 0, none⟩ = some (.slice A n cap) ∧ w'.cell? ⟨w.heap.size + 1, 1, none⟩ = some (.int .i64 h0) ∧ w'.cell? ⟨w.heap.size + 1, 2, none⟩ = some (.int .i64 h1) ∧ w'.cell? ⟨w.heap.size + 1, 3, none⟩ = some (.int .i64 h2) ∧ w'.cell? ⟨bXQ, 0, none⟩ = some (.slice (some ⟨g5, 0, none⟩) n p5) ∧ w'.cell? ⟨bXQ, 1, none⟩ = some (.int .i64 h0) ∧ w'.cell? ⟨bXQ, 2, none⟩ = some (.int .i64 h1) ∧ w'.cell? ⟨bXQ, 3, none⟩ = some (.int .i64 h2) ∧ w'.cell? ⟨bXR, 0, none⟩ = some (.slice A n cap) ∧ w'.cell? ⟨bXR, 1, none⟩ = some (.int .i64 h0) ∧ w'.cell? ⟨bXR, 2, none⟩ = some (.int .i64 h1) ∧ w'.cell? ⟨bXR, 3, none⟩ = some (.int .i64 h2))
      (first | exact SO.out _ B6 | exact SO.out _ B5 | exact SO.out _ B4 | exact SO.out _ B3 | exact SO.out _ B2 | exact SO.out _ B1 | exact SO.out _ (Below.refl _ _).drew)
      ((first
        | ((with_reducible refine (rsame_refl none 0 none 0 0 _ (by simp only [maxLen]; omega) [] rfl _ (RV.out _ (Below.refl _ _).drew) (RW.out _ (Below.refl _ _).drew)).mono ?_); rintro e y1 ⟨rfl, m1, rfl⟩; have B1 : Below u4.heap.size u4 (u4.drewN (1 + m1)) := below_draws (Below.refl _ _) (1 + m1))
        | ((with_reducible refine (psame_refl_any (some ⟨g5, 0, none⟩) A n p5 cap h0 h1 h2 ps _ HNm.out HN.out (RQ.out _ B1) (RR.out _ B1)).mono ?_); rintro e y2 ⟨rfl, b2⟩; have B2 : Below u4.heap.size u4 y2 := bthen B1 b2)
        | ((with_reducible refine (HZo.out _ (RD.out _ (B2))).mono ?_); rintro e y3 ⟨rfl, b3⟩; have B3 : Below u4.heap.size u4 y3 := bthen (B2) b3)
        | ((with_reducible refine (HZr.out _ (RD.out _ (B3))).mono ?_); rintro e y4 ⟨rfl, b4⟩; have B4 : Below u4.heap.size u4 y4 := bthen (B3) b4)
        | ((with_reducible refine (HKe.out _ (RD.out _ (B4))).mono ?_); rintro e y5 ⟨rfl, b5⟩; have B5 : Below u4.heap.size u4 y5 := bthen (B4) b5)
        | ((with_reducible refine (HKr.out _).mono ?_); rintro e y6 ⟨rfl, b6⟩; have B6 : Below u4.heap.size u4 y6 := bthen (B5) b6)
        | fail))
    have HF := Lib.hid (bthen H8.out.2.2 B6)
    go_wp2
    go_ret
    exact ⟨rfl, HF.out⟩
  · subst hres
    have H5 := Lib.hid (GP.below H2.out hb)
    obtain ⟨hqn, hl300⟩ := HQn.out l q rfl
    obtain ⟨A5, c5, rfl⟩ := own_slice hV
    have O5 := Lib.hid hown
    have V5 := Lib.hid hV
    have HQ := Lib.hid hqn
    have HLm : Hid (l.length ≤ maxLen) := Lib.hid (by simp only [maxLen]; omega)
    generalize hk0 : q.h0 = k0 at *
    generalize hk1 : q.h1 = k1 at *
    generalize hk2 : q.h2 = k2 at *
    have HK := Lib.hid (And.intro hk0 (And.intro hk1 hk2))
    clear hb hown hqn hV hk0 hk1 hk2 hl300
    go_wp2_with (first
      | ((with_reducible refine wpList_pool_alloc (o := ⟨_, .alloc _, _, _, _, _⟩) rfl rfl ?_); intro u2 xb hu2 hs2; clear hs2)
      | ((with_reducible refine wpList_pool_store (o := ⟨none, .store _ _ _, _, _, _, _⟩) rfl _ _ rfl _ (some ⟨g5, 0, none⟩) none n 0 p5 0 k0 k1 k2 0 0 0 rfl rfl xb ?_); intro u4 xd hu4; have hv1 := hu2.grown hu4 hu2.size (fun k hk => by injection hk with hk; omega); have H6 := Lib.hid (GP.below H5.out hv1); have XQ := Lib.hid xd; have O6 := Lib.hid (own_below O5.out hv1); have V6 := Lib.hid (own_below V5.out hv1); clear xb hu2 hu4 hv1 xd; generalize w5.heap.size = bXQ at *; obtain ⟨c0, c1, c2, c3, c4, cl⟩ := id H6.out.1; obtain ⟨a0, a1, a2, a3, al⟩ := id H6.out.2.1)
      | fail)
    refine (HPr.out _ (Rd.gp HRd.out H6.out) (HRs.out _ H6.out)).mono ?_
    clear c0 c1 c2 c3 c4 cl a0 a1 a2 a3 al
    rintro e w7 (⟨hres, _⟩ | ⟨l', q', hres, V', A7, c7, rfl, hV', hrow, hb⟩)
    · cases hres
    cases hres
    have H7 := Lib.hid (GP.below H6.out hb)
    have XQ7 := Lib.hid (XQ.out.on hb)
    have O7 := Lib.hid (own_below O6.out hb)
    have V7 := Lib.hid (own_below V6.out hb)
    have R7 := Lib.hid (hrow.rd hb.size)
    obtain ⟨A6, c6, rfl⟩ := own_slice hV'
    have W7 := Lib.hid hV'
    rw [HK.out.1, HK.out.2.1, HK.out.2.2]
    clear hb hrow hV'
    go_wp2_with (first
      | ((with_reducible refine wpList_pool_alloc (o := ⟨_, .alloc _, _, _, _, _⟩) rfl rfl ?_); intro u2 xb hu2 hs2; clear hs2)
      | ((with_reducible refine wpList_pool_store (o := ⟨none, .store _ _ _, _, _, _, _⟩) rfl _ _ rfl _ A7 none n 0 c7 0 k0 k1 k2 0 0 0 rfl rfl xb ?_); intro u4 xd hu4; have hv1 := hu2.grown hu4 hu2.size (fun k hk => by injection hk with hk; omega); have H8 := Lib.hid (GP.below H7.out hv1); have XR := Lib.hid xd; have XQ8 := Lib.hid (XQ7.out.on hv1); have RQ8 := Lib.hid (Rd.own (own_below O7.out hv1)); have RV8 := Lib.hid (Rd.own (own_below V7.out hv1)); have RW8 := Lib.hid (Rd.own (own_below W7.out hv1)); have RR8 := Lib.hid ((R7.out.below hv1).more hv1.size); clear xb hu2 hu4 hv1 xd; generalize w7.heap.size = bXR at *; skip)
      | fail)
    have RD := Lib.hid fun w' (h : Below u4.heap.size u4 w') => Rd.gp HRd.out (GP.below H8.out h)
    have SO := Lib.hid fun w' (h : Below u4.heap.size u4 w') => (fun (g : GP w w' conv soft seq size opn A n cap h0 h1 h2) (x : Box w' bXQ 27 (plcs (some ⟨g5, 0, none⟩) n p5 k0 k1 k2)) (y : Box w' bXR 27 (plcs A7 n c7 k0 k1 k2)) => (⟨g.1.1, g.1.2.1, g.1.2.2.1, g.1.2.2.2.1, g.1.2.2.2.2.1, g.2.1.1, g.2.1.2.1, g.2.1.2.2.1, g.2.1.2.2.2.1, x.cell 0, x.cell 1, x.cell 2, x.cell 3, y.cell 0, y.cell 1, y.cell 2, y.cell 3⟩ :
      w'.cell? ⟨w.heap.size, 0, none⟩ = some (.int .i64 conv) ∧ w'.cell? ⟨w.heap.size, 1, none⟩ = some (.int .i64 soft) ∧ w'.cell? ⟨w.heap.size, 2, none⟩ = some (.int .i64 seq) ∧ w'.cell? ⟨w.heap.size, 3, none⟩ = some (.int .i64 size) ∧ w'.cell? ⟨w.heap.size, 4, none⟩ = some (.int .i64 opn) ∧ w'.cell? ⟨w.heap.size + 1, 0, none⟩ = some (.slice A n cap) ∧ w'.cell? ⟨w.heap.size + 1, 1, none⟩ = some (.int .i64 h0) ∧ w'.cell? ⟨w.heap.size + 1, 2, none⟩ = some (.int .i64 h1) ∧ w'.cell? ⟨w.heap.size + 1, 3, none⟩ = some (.int .i64 h2) ∧ w'.cell? ⟨bXQ, 0, none⟩ = some (.slice (some ⟨g5, 0, none⟩) n p5) ∧ w'.cell? ⟨bXQ, 1, none⟩ = some (.int .i64 k0) ∧ w'.cell? ⟨bXQ, 2, none⟩ = some (.int .i64 k1) ∧ w'.cell? ⟨bXQ, 3, none⟩ = some (.int .i64 k2) ∧ w'.cell? ⟨bXR, 0, none⟩ = some (.slice A7 n c7) ∧ w'.cell? ⟨bXR, 1, none⟩ = some (.int .i64 k0) ∧ w'.cell? ⟨bXR, 2, none⟩ = some (.int .i64 k1) ∧ w'.cell? ⟨bXR, 3, none⟩ = some (.int .i64 k2))) (GP.below H8.out h) (XQ8.out.on h) (XR.out.on h)
    have RQ := Lib.hid fun w' (h : Below u4.heap.size u4 w') => (RQ8.out.below h).more h.size
    have RR := Lib.hid fun w' (h : Below u4.heap.size u4 w') => (RR8.out.below h).more h.size
    have RV := Lib.hid fun w' (h : Below u4.heap.size u4 w') => (RV8.out.below h).more h.size
    have RW := Lib.hid fun w' (h : Below u4.heap.size u4 w') => (RW8.out.below h).more h.size
    go_wp2_with fail
    rw [show ((st : Int) % 3) = ((st % 3 : Nat) : Int) by omega]
    generalize st % 3 = s at *
    go_region_held3 (fun w' => w'.cell? ⟨w.heap.size, 0, none⟩ = some (.int .i64 conv) ∧ w'.cell? ⟨w.heap.size, 1, none⟩ = some (.int .i64 soft) ∧ w'.cell? ⟨w.heap.size, 2, none⟩ = some (.int .i64 seq) ∧ w'.cell? ⟨w.heap.size, 3, none⟩ = some (.int .i64 size) ∧ w'.cell? ⟨w.heap.size, 4, none⟩ = some (.int .i64 opn) ∧ w'.cell? ⟨w.heap.size + 1, 0, none⟩ = some (.slice A n cap) ∧ w'.cell? ⟨w.heap.size + 1, 1, none⟩ = some (.int .i64 h0) ∧ w'.cell? ⟨w.heap.size + 1, 2, none⟩ = some (.int .i64 h1) ∧ w'.cell? ⟨w.heap.size + 1, 3, none⟩ = some (.int .i64 h2) ∧ w'.cell? ⟨bXQ, 0, none⟩ = some (.slice (some ⟨g5, 0, none⟩) n p5) ∧ w'.cell? ⟨bXQ, 1, none⟩ = some (.int .i64 k0) ∧ w'.cell? ⟨bXQ, 2, none⟩ = some (.int .i64 k1) ∧ w'.cell? ⟨bXQ, 3, none⟩ = some (.int .i64 k2) ∧ w'.cell? ⟨bXR, 0, none⟩ = some (.slice A7 n c7) ∧ w'.cell? ⟨bXR, 1, none⟩ = some (.int .i64 k0) ∧ w'.cell? ⟨bXR, 2, none⟩ = some (.int .i64 k1) ∧ w'.cell? ⟨bXR, 3, none⟩ = some (.int .i64 k2))
      (first | exact SO.out _ B6 | exact SO.out _ B5 | exact SO.out _ B4 | exact SO.out _ B3 | exact SO.out _ B2 | exact SO.out _ B1 | exact SO.out _ (Below.refl _ _).drew)
      ((first
        | ((with_reducible refine (rsame_refl A5 c5 A6 c6 l.length _ HLm.out l rfl _ (RV.out _ (Below.refl _ _).drew) (RW.out _ (Below.refl _ _).drew)).mono ?_); rintro e y1 ⟨rfl, m1, rfl⟩; have B1 : Below u4.heap.size u4 (u4.drewN (1 + m1)) := below_draws (Below.refl _ _) (1 + m1))
        | ((with_reducible refine (psame_refl_any (some ⟨g5, 0, none⟩) A7 n p5 c7 k0 k1 k2 q.ps _ HNm.out HQ.out (RQ.out _ B1) (RR.out _ B1)).mono ?_); rintro e y2 ⟨rfl, b2⟩; have B2 : Below u4.heap.size u4 y2 := bthen B1 b2)
        | ((with_reducible refine (HZo.out _ (RD.out _ (B2))).mono ?_); rintro e y3 ⟨rfl, b3⟩; have B3 : Below u4.heap.size u4 y3 := bthen (B2) b3)
        | ((with_reducible refine (HZr.out _ (RD.out _ (B3))).mono ?_); rintro e y4 ⟨rfl, b4⟩; have B4 : Below u4.heap.size u4 y4 := bthen (B3) b4)
        | ((with_reducible refine (HKe.out _ (RD.out _ (B4))).mono ?_); rintro e y5 ⟨rfl, b5⟩; have B5 : Below u4.heap.size u4 y5 := bthen (B4) b5)
        | ((with_reducible refine (HKr.out _).mono ?_); rintro e y6 ⟨rfl, b6⟩; have B6 : Below u4.heap.size u4 y6 := bthen (B5) b6)
        | fail))
    have HF := Lib.hid (bthen H8.out.2.2 B6)
    go_wp2
    go_ret
    exact ⟨rfl, HF.out⟩
end Go.Proofs.Ytbhcemipjfdemaa

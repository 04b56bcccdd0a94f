/-
  Layer 12's laws: the law Reserve.
-/
import Derived.Test.YtbhcemipjfdemaaLaI
import Derived.Test.YtbhcemipjfdemaaLaK
import Derived.Test.YtbhcemipjfdemaaLaG
namespace Go.Proofs.Ytbhcemipjfdemaa
open Go.RowKit Geom Leaf Pol
set_option linter.unusedVariables false

set_option maxRecDepth 100000 in
set_option maxHeartbeats 16000000 in
theorem lalaw_reserve (conv soft seq size opn : Int) (A : Option Addr) (n cap : Nat) (ps : List Int) (h0 h1 h2 : Int) (x y : Int) (lv : Nat) (w : World) (hm : n ≤ maxLen) (hn : ps.length = n) (hr : Rd w w.heap.size A (is ps)) (hlv : lv ≤ 255) :
    Calls Try.prog 5 #[pgv conv soft seq size opn, ppv A n cap h0 h1 h2, .int .i64 x, .int .i64 y, .int .u8 lv] w fun e w' => e = .returned (.bool true) ∧ Below w.heap.size w w' := by
  have H0 := Lib.hid (GP.new w conv soft seq size opn A n cap h0 h1 h2 23 27)
  have HR := Lib.hid fun w' (h : GP w w' conv soft seq size opn A n cap h0 h1 h2) => right12_any conv soft seq size opn A n cap ps h0 h1 h2 w' hm hn (hr.gp h)
  have HRy := Lib.hid fun h => rt_yes (conv := conv) (soft := soft) (seq := seq) (size := size) (opn := opn) (ps := ps) (h0 := h0) (h1 := h1) (h2 := h2) h
  have HN := Lib.hid hn
  have HRd := Lib.hid hr
  generalize rtB conv soft seq size opn ps h0 h1 h2 = rb at HR HRy
  have HCx := Lib.hid fun w => num12_any x w
  have HYx := Lib.hid fun h => num_yes (x := x) h
  generalize numB x = tx at HCx HYx
  have HCy := Lib.hid fun w => num12_any y w
  have HYy := Lib.hid fun h => num_yes (x := y) h
  generalize numB y = ty at HCy HYy
  clear hr hn hm
  go_enter Try.func5, Try.ntmps5
  go_wp2_with fail
  generalize World.alloc _ _ = w0 at H0 ⊢
  refine (awake12_any _).mono ?_
  rintro e w1 ⟨rfl, hb⟩
  have H1 := Lib.hid (GP.below H0.out hb)
  clear H0 hb
  obtain ⟨c0, c1, c2, c3, c4, cl⟩ := id H1.out.1
  obtain ⟨a0, a1, a2, a3, al⟩ := id H1.out.2.1
  go_wp2_with fail
  refine (HR.out _ H1.out).mono ?_
  rintro e w2 ⟨rfl, hb⟩
  have H2 := Lib.hid (GP.below H1.out hb)
  clear H1 hb c0 c1 c2 c3 c4 cl a0 a1 a2 a3 al
  cases rb
  · go_wp2_with fail
    refine (awake12_any _).mono ?_
    rintro e w9 ⟨rfl, hb9⟩
    have H9 := Lib.hid (GP.below H2.out hb9)
    clear hb9
    go_wp2
    go_ret
    exact ⟨rfl, H9.out.2.2⟩
  go_wp2_with fail
  refine (HCx.out w2).mono ?_
  rintro e w3 ⟨rfl, rfl⟩
  cases tx
  · go_wp2_with fail
    refine (awake12_any _).mono ?_
    rintro e w9 ⟨rfl, hb9⟩
    have H9 := Lib.hid (GP.below H2.out hb9)
    clear hb9
    go_wp2
    go_ret
    exact ⟨rfl, H9.out.2.2⟩
  go_wp2_with fail
  refine (HCy.out w2).mono ?_
  rintro e w3 ⟨rfl, rfl⟩
  cases ty
  · go_wp2_with fail
    refine (awake12_any _).mono ?_
    rintro e w9 ⟨rfl, hb9⟩
    have H9 := Lib.hid (GP.below H2.out hb9)
    clear hb9
    go_wp2
    go_ret
    exact ⟨rfl, H9.out.2.2⟩
  obtain ⟨hok, hs12, hz24, hRt⟩ := HRy.out (by first | trivial | rfl)
  have HS := Lib.hid hok.some
  have hn64 : n ≤ 64 := by have h := Ri.len hRt; have := HN.out; simp only at h; omega
  have HM := Lib.hid hn64
  have HRt := Lib.hid hRt
  have HSz := Lib.hid (And.intro hs12 hz24)
  clear hok hRt hs12 hz24 hn64
  obtain ⟨a, rfl, ha⟩ := HYx.out (by first | trivial | rfl)
  obtain ⟨b, rfl, hb⟩ := HYy.out (by first | trivial | rfl)
  have HAB := Lib.hid (And.intro ha hb)
  have hq4 : 8 ≤ size := HS.out.2.2.2.1
  have hm0 := Int.emod_nonneg (lv : Int) (show size ≠ 0 by omega)
  have hm1 := Int.emod_lt_of_pos (lv : Int) (show 0 < size by omega)
  obtain ⟨t, ht⟩ : ∃ t : Nat, (lv : Int) % size = t := ⟨((lv : Int) % size).toNat, by omega⟩
  rw [ht] at hm0 hm1
  have HT := Lib.hid hm1
  have hs0 : (size == 0) = false := by simp; omega
  have hFr := fun w' (h : Rd w' w'.heap.size A (is ps)) => lfree_any conv soft seq size opn A n cap ⟨ps, h0, h1, h2⟩ w' HM.out HN.out HS.out h
  have hKe := fun w' (h : Rd w' w'.heap.size A (is ps)) => lkeep_any conv soft seq size opn A n cap ⟨ps, h0, h1, h2⟩ w' HM.out HN.out HS.out HRt.out h
  have hMo := fun w' (h : Rd w' w'.heap.size A (is ps)) => lmoves_any conv soft seq size opn A n cap ⟨ps, h0, h1, h2⟩ t w' HM.out HN.out HS.out HRt.out (by have := HSz.out.2; have := HT.out; omega) h
  have hFi := fun w' (h : Rd w' w'.heap.size A (is ps)) => lfits_any conv soft seq size opn A n cap ⟨ps, h0, h1, h2⟩ a b w' HM.out HN.out HS.out HRt.out (by omega) (by omega) h
  have hKM := keep_moves HS.out HRt.out (n := t) HT.out
  have hFM := fits_moves HS.out HRt.out (a := a) (b := b) (n := t) HT.out
  have hPl := fun w' As cs (h : Rd w' w'.heap.size A (is ps)) hs => lplan_any conv soft seq size opn A n cap ps h0 h1 h2 As (a + b) cs (List.replicate a 0 ++ List.replicate b 2) w' HM.out HN.out HS.out HRt.out h (rep_lt (by omega)) (by simp) (by omega) hs
  have HQn : Hid (∀ l q, planX conv size (List.replicate a 0 ++ List.replicate b 2) ⟨ps, h0, h1, h2⟩ = some (l, q) → q.ps.length = n) := Lib.hid fun l q h => (plan_rt HS.out _ _ HRt.out (rep_lt (by omega)) l q h).2.1.trans HN.out
  have hk12 := keep_one conv size ⟨ps, h0, h1, h2⟩
  have hf0 : fr conv ⟨ps, h0, h1, h2⟩ ≤ n := fr_le conv n _ HN.out
  generalize movesB conv size ⟨ps, h0, h1, h2⟩ t = mv at *
  generalize fitsB conv size ⟨ps, h0, h1, h2⟩ a b = fv at *
  generalize planX conv size (List.replicate a 0 ++ List.replicate b 2) ⟨ps, h0, h1, h2⟩ = res at *
  generalize keepN conv size ⟨ps, h0, h1, h2⟩ = kp at *
  generalize fr conv ⟨ps, h0, h1, h2⟩ = f at *
  have HFr := Lib.hid hFr
  have HKe := Lib.hid hKe
  have HMo := Lib.hid hMo
  have HFi := Lib.hid hFi
  have HKM := Lib.hid hKM
  have HFM := Lib.hid hFM
  have HPl := Lib.hid hPl
  clear hFr hKe hMo hFi hKM hFM hPl ha hb hm0 hm1
  by_cases hkf : kp ≤ (f : Int)
  · have dk : decide (kp ≤ (f : Int)) = true := decide_eq_true hkf
    obtain rfl : mv = true := HKM.out hkf
    obtain ⟨c0, c1, c2, c3, c4, cl⟩ := id H2.out.1
    obtain ⟨a0, a1, a2, a3, al⟩ := id H2.out.2.1
    go_wp2_with fail
    have RD := Lib.hid fun w' (h : Below w2.heap.size w2 w') => Rd.gp HRd.out (GP.below H2.out h)
    have SO := Lib.hid fun w' (h : Below w2.heap.size w2 w') => (fun (g : GP w w' conv soft seq size opn A n cap h0 h1 h2) => (⟨g.1.1, g.1.2.1, g.1.2.2.1, g.1.2.2.2.1, g.1.2.2.2.2.1, g.2.1.1, g.2.1.2.1, g.2.1.2.2.1, g.2.1.2.2.2.1⟩ :
      w'.cell? ⟨w.heap.size, 0, none⟩ = some (.int .i64 conv) ∧ w'.cell? ⟨w.heap.size, 1, none⟩ = some (.int .i64 soft) ∧ w'.cell? ⟨w.heap.size, 2, none⟩ = some (.int .i64 seq) ∧ w'.cell? ⟨w.heap.size, 3, none⟩ = some (.int .i64 size) ∧ w'.cell? ⟨w.heap.size, 4, none⟩ = some (.int .i64 opn) ∧ w'.cell? ⟨w.heap.size + 1, 0, none⟩ = some (.slice A n cap) ∧ w'.cell? ⟨w.heap.size + 1, 1, none⟩ = some (.int .i64 h0) ∧ w'.cell? ⟨w.heap.size + 1, 2, none⟩ = some (.int .i64 h1) ∧ w'.cell? ⟨w.heap.size + 1, 3, none⟩ = some (.int .i64 h2))) (GP.below H2.out h)
    go_region_held3 (fun w' => w'.cell? ⟨w.heap.size, 0, none⟩ = some (.int .i64 conv) ∧ w'.cell? ⟨w.heap.size, 1, none⟩ = some (.int .i64 soft) ∧ w'.cell? ⟨w.heap.size, 2, none⟩ = some (.int .i64 seq) ∧ w'.cell? ⟨w.heap.size, 3, none⟩ = some (.int .i64 size) ∧ w'.cell? ⟨w.heap.size, 4, none⟩ = some (.int .i64 opn) ∧ w'.cell? ⟨w.heap.size + 1, 0, none⟩ = some (.slice A n cap) ∧ w'.cell? ⟨w.heap.size + 1, 1, none⟩ = some (.int .i64 h0) ∧ w'.cell? ⟨w.heap.size + 1, 2, none⟩ = some (.int .i64 h1) ∧ w'.cell? ⟨w.heap.size + 1, 3, none⟩ = some (.int .i64 h2))
      (first | exact SO.out _ B3 | exact SO.out _ B2 | exact SO.out _ B1 | exact SO.out _ (Below.refl _ _).drew)
      ((first
        | ((with_reducible refine (HFr.out _ (RD.out _ ((Below.refl _ _).drew))).mono ?_); rintro e y1 ⟨A1, q1, rfl, b1⟩; have B1 : Below w2.heap.size w2 y1 := bthen ((Below.refl _ _).drew) b1)
        | ((with_reducible refine (HKe.out _ (RD.out _ (B1))).mono ?_); rintro e y2 ⟨rfl, b2⟩; have B2 : Below w2.heap.size w2 y2 := bthen (B1) b2)
        | ((with_reducible refine (HMo.out _ (RD.out _ (B2))).mono ?_); rintro e y3 ⟨rfl, b3⟩; have B3 : Below w2.heap.size w2 y3 := bthen (B2) b3)
        | fail))
    have H3 := Lib.hid (GP.below H2.out B3)
    clear B3 B2 B1 b1 b2 b3 c0 c1 c2 c3 c4 cl a0 a1 a2 a3 al
    clear SO RD hkf dk
    obtain ⟨c0, c1, c2, c3, c4, cl⟩ := id H3.out.1
    obtain ⟨a0, a1, a2, a3, al⟩ := id H3.out.2.1
    go_wp2_with fail
    refine (HFi.out _ (Rd.gp HRd.out H3.out)).mono ?_
    rintro e w4 ⟨rfl, hb⟩
    have H4 := Lib.hid (GP.below H3.out hb)
    clear hb c0 c1 c2 c3 c4 cl a0 a1 a2 a3 al
    cases fv
    · go_wp2
      go_ret
      exact ⟨rfl, H4.out.2.2⟩
    obtain ⟨l, q, hres, hRq, hmq⟩ := HFM.out (by first | trivial | rfl)
    subst hres
    have HQ := Lib.hid (And.intro hRq (HQn.out l q rfl))
    have HMq := Lib.hid hmq
    clear hRq hmq
    go_wp2
    go_loopw [12, 13] (fun V i wr => ∃ k : Nat, k ≤ a ∧ i = .int .i64 k ∧ wr.ownsRow w4.heap.size 3 1 V k (is (List.replicate k (0 : Int))) ∧ Below w4.heap.size w4 wr) (fun _ i _ => a - (intOf i).toNat)
    case atStart => exact ⟨0, by omega, rfl, World.ownsRow_nil _ _ _ _, Below.refl _ _⟩
    case round =>
      obtain ⟨k, hk, rfl, hown, hbl⟩ := hrel
      have hab := HAB.out
      by_cases hlt : k < a
      · have hki : (k : Int) < (a : Int) := by omega
        have hsz' := hbl.size
        go_wp2_with (at_builtin; (refine wpList_append_one _ rfl _ _ _ rfl w4.heap.size 3 _ 8 pelemI u12 k (is (List.replicate k (0 : Int))) rfl (.int .i64 0) rfl hown rfl (by simp only [maxLen]; omega) (by omega) hsz' ?_); intro v1 w5 hown1 hg1; have HO := Lib.hid (And.intro hown1 (hbl.grown hg1 hsz' fun g hg => (hown.lt g hg).1)); clear hown1 hg1)
        go_roundw
        case rel => exact ⟨k + 1, by omega, by go_num, by rw [rep_succ, pis_append]; exact HO.out.1, HO.out.2⟩
        case measure => first | (simp [intOf]; done) | (simp [intOf]; omega)
      obtain rfl : a = k := by omega
      have hka : ¬ ((a : Int) < (a : Int)) := by omega
      have HO := Lib.hid (And.intro hown hbl)
      clear hown hbl
      go_wp2
      go_loopw [12, 14] (fun V i wr2 => ∃ k : Nat, k ≤ b ∧ i = .int .i64 k ∧ wr2.ownsRow w4.heap.size 3 1 V (a + k) (is (List.replicate a (0 : Int) ++ List.replicate k 2)) ∧ Below w4.heap.size w4 wr2) (fun _ i _ => b - (intOf i).toNat)
      case atStart => exact ⟨0, by omega, rfl, by simpa using HO.out.1, HO.out.2⟩
      case round =>
        obtain ⟨k, hk, rfl, hown, hbl⟩ := hrel
        by_cases hlt : k < b
        · have hki : (k : Int) < (b : Int) := by omega
          have hsz' := hbl.size
          clear HO
          go_wp2_with (at_builtin; (refine wpList_append_one _ rfl _ _ _ rfl w4.heap.size 3 _ 8 pelemI u12 (a + k) (is (List.replicate a (0 : Int) ++ List.replicate k 2)) rfl (.int .i64 2) rfl hown rfl (by simp only [maxLen]; omega) (by omega) hsz' ?_); intro v1 w5 hown1 hg1; have HO := Lib.hid (And.intro hown1 (hbl.grown hg1 hsz' fun g hg => (hown.lt g hg).1)); clear hown1 hg1)
          go_roundw
          case rel => exact ⟨k + 1, by omega, by go_num, by rw [rep_succ, ← List.append_assoc, pis_append]; exact HO.out.1, HO.out.2⟩
          case measure => first | (simp [intOf]; done) | (simp [intOf]; omega)
        obtain rfl : b = k := by omega
        have hkb : ¬ ((b : Int) < (b : Int)) := by omega
        obtain ⟨As, cs, rfl⟩ := own_slice hown
        have H5 := Lib.hid (GP.below H4.out hbl)
        have HR5 := Lib.hid (Rd.own hown)
        have e3 := isn_rep3 0 a b
        rw [show ((0 : Nat) : Int) = 0 from rfl] at e3
        rw [e3] at HR5
        clear hown hbl HO e3
        obtain ⟨c0, c1, c2, c3, c4, cl⟩ := id H5.out.1
        obtain ⟨a0, a1, a2, a3, al⟩ := id H5.out.2.1
        go_wp2_with fail
        refine (HPl.out _ _ _ (Rd.gp HRd.out H5.out) HR5.out).mono ?_
        clear c0 c1 c2 c3 c4 cl a0 a1 a2 a3 al
        rintro e w6 (⟨hres, _⟩ | ⟨l', q', hres, V, g6, p6, rfl, _, hown, hb⟩)
        · cases hres
        cases hres
        have H6 := Lib.hid (GP.below H5.out hb)
        have O6 := Lib.hid hown
        have HMQ := Lib.hid fun w' c' (h : Rd w' w'.heap.size (some ⟨g6, 0, none⟩) (is q.ps)) => lmoves_any conv soft seq size opn (some ⟨g6, 0, none⟩) n c' q t w' HM.out HQ.out.2 HS.out HQ.out.1 (by have := HSz.out.2; have := HT.out; omega) h
        rw [HMq.out] at HMQ
        generalize hk0 : q.h0 = k0 at *
        generalize hk1 : q.h1 = k1 at *
        generalize hk2 : q.h2 = k2 at *
        clear hb hown hk0 hk1 hk2
        go_wp2_with (first
          | ((with_reducible refine wpList_pool_alloc (o := ⟨_, .alloc _, _, _, _, _⟩) rfl rfl ?_); intro u2 xb hu2 hs2; clear hs2)
          | ((with_reducible refine wpList_pool_store (o := ⟨none, .store _ _ _, _, _, _, _⟩) rfl _ _ rfl _ (some ⟨g6, 0, none⟩) none n 0 p6 0 k0 k1 k2 0 0 0 rfl rfl xb ?_); intro u4 xd hu4; have hv1 := hu2.grown hu4 hu2.size (fun k hk => by injection hk with hk; omega); have H7 := Lib.hid (GP.below H6.out hv1); have XQ := Lib.hid xd; have O7 := Lib.hid (own_below O6.out hv1); clear xb hu2 hu4 hv1 xd; generalize w6.heap.size = bq at XQ ⊢; obtain ⟨c0, c1, c2, c3, c4, cl⟩ := id H7.out.1; obtain ⟨a0, a1, a2, a3, al⟩ := id H7.out.2.1; obtain ⟨b0, b1, b2, b3, bl⟩ := XQ.out.pool)
          | fail)
        refine (HMQ.out _ _ (Rd.own O7.out)).mono ?_
        rintro e w8 ⟨rfl, hb⟩
        have H8 := Lib.hid (GP.below H7.out hb)
        clear hb b0 b1 b2 b3 bl c0 c1 c2 c3 c4 cl a0 a1 a2 a3 al
        go_wp2
        go_ret
        exact ⟨rfl, H8.out.2.2⟩
  · have dk : decide (kp ≤ (f : Int)) = false := decide_eq_false hkf
    obtain ⟨c0, c1, c2, c3, c4, cl⟩ := id H2.out.1
    obtain ⟨a0, a1, a2, a3, al⟩ := id H2.out.2.1
    go_wp2_with fail
    have RD := Lib.hid fun w' (h : Below w2.heap.size w2 w') => Rd.gp HRd.out (GP.below H2.out h)
    have SO := Lib.hid fun w' (h : Below w2.heap.size w2 w') => (fun (g : GP w w' conv soft seq size opn A n cap h0 h1 h2) => (⟨g.1.1, g.1.2.1, g.1.2.2.1, g.1.2.2.2.1, g.1.2.2.2.2.1, g.2.1.1, g.2.1.2.1, g.2.1.2.2.1, g.2.1.2.2.2.1⟩ :
      w'.cell? ⟨w.heap.size, 0, none⟩ = some (.int .i64 conv) ∧ w'.cell? ⟨w.heap.size, 1, none⟩ = some (.int .i64 soft) ∧ w'.cell? ⟨w.heap.size, 2, none⟩ = some (.int .i64 seq) ∧ w'.cell? ⟨w.heap.size, 3, none⟩ = some (.int .i64 size) ∧ w'.cell? ⟨w.heap.size, 4, none⟩ = some (.int .i64 opn) ∧ w'.cell? ⟨w.heap.size + 1, 0, none⟩ = some (.slice A n cap) ∧ w'.cell? ⟨w.heap.size + 1, 1, none⟩ = some (.int .i64 h0) ∧ w'.cell? ⟨w.heap.size + 1, 2, none⟩ = some (.int .i64 h1) ∧ w'.cell? ⟨w.heap.size + 1, 3, none⟩ = some (.int .i64 h2))) (GP.below H2.out h)
    refine wp_region_held_drew (S := (fun w' => w'.cell? ⟨w.heap.size, 0, none⟩ = some (.int .i64 conv) ∧ w'.cell? ⟨w.heap.size, 1, none⟩ = some (.int .i64 soft) ∧ w'.cell? ⟨w.heap.size, 2, none⟩ = some (.int .i64 seq) ∧ w'.cell? ⟨w.heap.size, 3, none⟩ = some (.int .i64 size) ∧ w'.cell? ⟨w.heap.size, 4, none⟩ = some (.int .i64 opn) ∧ w'.cell? ⟨w.heap.size + 1, 0, none⟩ = some (.slice A n cap) ∧ w'.cell? ⟨w.heap.size + 1, 1, none⟩ = some (.int .i64 h0) ∧ w'.cell? ⟨w.heap.size + 1, 2, none⟩ = some (.int .i64 h1) ∧ w'.cell? ⟨w.heap.size + 1, 3, none⟩ = some (.int .i64 h2))) (by kernel_rfl) (SO.out _ (Below.refl _ _).drew) (fun hHeld => ?_)
    refine wpAnyH_take (i := 0) (oi := ⟨some 42, .load _ _, _, _, _, _⟩) (v := ?v1) rfl (by kernel_rfl) (by kernel_rfl) (by kernel_rfl) (fun _ _ _ h => h) (Or.inl ⟨by rfl, ?hy1⟩) (by assumption) ?rest1
    case hy1 =>
      intro w hSw
      try dsimp only at hSw
      go_simp
      try with_reducible rfl
    try simp only [Act.put, List.setIfInBounds_toArray, List.set_cons_zero, List.set_cons_succ]
    refine wpAnyH_take (i := 1) (oi := ⟨some 43, .load _ _, _, _, _, _⟩) (v := ?v2) rfl (by kernel_rfl) (by kernel_rfl) (by kernel_rfl) (fun _ _ _ h => h) (Or.inl ⟨by rfl, ?hy2⟩) (by assumption) ?rest2
    case hy2 =>
      intro w hSw
      try dsimp only at hSw
      go_simp
      try with_reducible rfl
    try simp only [Act.put, List.setIfInBounds_toArray, List.set_cons_zero, List.set_cons_succ]
    refine wpAnyH_take (i := 4) (oi := ⟨some 46, .load _ _, _, _, _, _⟩) (v := ?v3) rfl (by kernel_rfl) (by kernel_rfl) (by kernel_rfl) (fun _ _ _ h => h) (Or.inl ⟨by rfl, ?hy3⟩) (by assumption) ?rest3
    case hy3 =>
      intro w hSw
      try dsimp only at hSw
      go_simp
      try with_reducible rfl
    try simp only [Act.put, List.setIfInBounds_toArray, List.set_cons_zero, List.set_cons_succ]
    refine wpAnyH_take (i := 5) (oi := ⟨some 47, .load _ _, _, _, _, _⟩) (v := ?v4) rfl (by kernel_rfl) (by kernel_rfl) (by kernel_rfl) (fun _ _ _ h => h) (Or.inl ⟨by rfl, ?hy4⟩) (by assumption) ?rest4
    case hy4 =>
      intro w hSw
      try dsimp only at hSw
      go_simp
      try with_reducible rfl
    try simp only [Act.put, List.setIfInBounds_toArray, List.set_cons_zero, List.set_cons_succ]
    refine wpAnyH_ready (rs := [2]) (by kernel_rfl) (by simp) ?_
    refine AllReadyH.cons (o := ⟨some 44, .call _, _, _, _, _⟩) rfl (fun K hK => ?_) AllReadyH.nil
    go_simp
    refine (HFr.out _ (RD.out _ ((Below.refl _ _).drew))).mono ?_
    rintro e y1 ⟨A1, q1, rfl, b1⟩
    have B1 : Below w2.heap.size w2 y1 := bthen ((Below.refl _ _).drew) b1
    go_wp2_with fail
    clear hHeld
    refine hK.out _ _ (SO.out _ B1) (fun hHeld => ?_)
    clear hK K
    try simp only [Act.put, List.setIfInBounds_toArray, List.set_cons_zero, List.set_cons_succ]
    refine wpAnyH_take (i := 3) (oi := ⟨some 45, .call _, _, _, _, _⟩) (v := ?v6) rfl (by kernel_rfl) (by kernel_rfl) (by kernel_rfl) (fun _ _ _ h => h) (Or.inl ⟨by rfl, ?hy6⟩) (by assumption) ?rest6
    case hy6 =>
      intro w hSw
      try dsimp only at hSw
      go_simp
      try with_reducible rfl
    try simp only [Act.put, List.setIfInBounds_toArray, List.set_cons_zero, List.set_cons_succ]
    refine wpAnyH_ready (rs := [6]) (by kernel_rfl) (by simp) ?_
    refine AllReadyH.cons (o := ⟨some 48, .call _, _, _, _, _⟩) rfl (fun K hK => ?_) AllReadyH.nil
    go_simp
    refine (HKe.out _ (RD.out _ (B1))).mono ?_
    rintro e y2 ⟨rfl, b2⟩
    have B2 : Below w2.heap.size w2 y2 := bthen (B1) b2
    go_wp2_with fail
    clear hHeld
    refine hK.out _ _ (SO.out _ B2) (fun hHeld => ?_)
    clear hK K
    try simp only [Act.put, List.setIfInBounds_toArray, List.set_cons_zero, List.set_cons_succ]
    refine wpAnyH_take (i := 7) (oi := ⟨some 49, .binOp _ _ _ _ _, _, _, _, _⟩) (v := ?v8) rfl (by kernel_rfl) (by kernel_rfl) (by kernel_rfl) (fun _ _ _ h => h) (Or.inl ⟨by rfl, ?hy8⟩) (by assumption) ?rest8
    case hy8 =>
      intro w hSw
      try dsimp only at hSw
      go_simp
      try with_reducible rfl
    try simp only [Act.put, List.setIfInBounds_toArray, List.set_cons_zero, List.set_cons_succ]
    refine wpAnyH_take (i := 8) (oi := ⟨some 50, .move _, _, _, _, _⟩) (v := ?v9) rfl (by kernel_rfl) (by kernel_rfl) (by kernel_rfl) (fun _ _ _ h => h) (Or.inl ⟨by rfl, ?hy9⟩) (by assumption) ?rest9
    case hy9 =>
      intro w hSw
      try dsimp only at hSw
      go_simp
      try with_reducible rfl
    try simp only [Act.put, List.setIfInBounds_toArray, List.set_cons_zero, List.set_cons_succ]
    refine wpAnyH_take (i := 9) (oi := ⟨some 51, .load _ _, _, _, _, _⟩) (v := undef) rfl (by kernel_rfl) (by kernel_rfl) (by kernel_rfl) (fun _ _ _ h => h) (Or.inr ⟨by rfl, rfl⟩) (by assumption) ?rest10
    try simp only [Act.put, List.setIfInBounds_toArray, List.set_cons_zero, List.set_cons_succ]
    refine wpAnyH_take (i := 10) (oi := ⟨some 52, .load _ _, _, _, _, _⟩) (v := undef) rfl (by kernel_rfl) (by kernel_rfl) (by kernel_rfl) (fun _ _ _ h => h) (Or.inr ⟨by rfl, rfl⟩) (by assumption) ?rest11
    try simp only [Act.put, List.setIfInBounds_toArray, List.set_cons_zero, List.set_cons_succ]
    refine wpAnyH_take (i := 11) (oi := ⟨some 53, .move _, _, _, _, _⟩) (v := undef) rfl (by kernel_rfl) (by kernel_rfl) (by kernel_rfl) (fun _ _ _ h => h) (Or.inr ⟨by rfl, rfl⟩) (by assumption) ?rest12
    try simp only [Act.put, List.setIfInBounds_toArray, List.set_cons_zero, List.set_cons_succ]
    refine wpAnyH_take (i := 12) (oi := ⟨some 54, .call _, _, _, _, _⟩) (v := undef) rfl (by kernel_rfl) (by kernel_rfl) (by kernel_rfl) (fun _ _ _ h => h) (Or.inr ⟨by rfl, rfl⟩) (by assumption) ?rest13
    try simp only [Act.put, List.setIfInBounds_toArray, List.set_cons_zero, List.set_cons_succ]
    refine wpAnyH_take (i := 13) (oi := ⟨some 55, .unOp _ _ _, _, _, _, _⟩) (v := undef) rfl (by kernel_rfl) (by kernel_rfl) (by kernel_rfl) (fun _ _ _ h => h) (Or.inr ⟨by rfl, rfl⟩) (by assumption) ?rest14
    try simp only [Act.put, List.setIfInBounds_toArray, List.set_cons_zero, List.set_cons_succ]
    refine wpAnyH_take (i := 14) (oi := ⟨some 56, .pick _ _ _, _, _, _, _⟩) (v := ?v15) rfl (by kernel_rfl) (by kernel_rfl) (by kernel_rfl) (fun _ _ _ h => h) (Or.inl ⟨by rfl, ?hy15⟩) (by assumption) ?rest15
    case hy15 =>
      intro w hSw
      try dsimp only at hSw
      go_simp
      try with_reducible rfl
    try simp only [Act.put, List.setIfInBounds_toArray, List.set_cons_zero, List.set_cons_succ]
    refine wpAnyH_done (by kernel_rfl) ?_ _
    try simp only [Act.put, List.setIfInBounds_toArray, List.set_cons_zero, List.set_cons_succ]
    have H3 := Lib.hid (GP.below H2.out B2)
    clear B2 B1 b1 b2 c0 c1 c2 c3 c4 cl a0 a1 a2 a3 al
    clear SO RD hkf dk hHeld
    obtain ⟨c0, c1, c2, c3, c4, cl⟩ := id H3.out.1
    obtain ⟨a0, a1, a2, a3, al⟩ := id H3.out.2.1
    go_wp2_with fail
    refine (HFi.out _ (Rd.gp HRd.out H3.out)).mono ?_
    rintro e w4 ⟨rfl, hb⟩
    have H4 := Lib.hid (GP.below H3.out hb)
    clear hb c0 c1 c2 c3 c4 cl a0 a1 a2 a3 al
    cases fv
    · go_wp2
      go_ret
      exact ⟨rfl, H4.out.2.2⟩
    obtain ⟨l, q, hres, hRq, hmq⟩ := HFM.out (by first | trivial | rfl)
    subst hres
    have HQ := Lib.hid (And.intro hRq (HQn.out l q rfl))
    have HMq := Lib.hid hmq
    clear hRq hmq
    go_wp2
    go_loopw [12, 13] (fun V i wr => ∃ k : Nat, k ≤ a ∧ i = .int .i64 k ∧ wr.ownsRow w4.heap.size 3 1 V k (is (List.replicate k (0 : Int))) ∧ Below w4.heap.size w4 wr) (fun _ i _ => a - (intOf i).toNat)
    case atStart => exact ⟨0, by omega, rfl, World.ownsRow_nil _ _ _ _, Below.refl _ _⟩
    case round =>
      obtain ⟨k, hk, rfl, hown, hbl⟩ := hrel
      have hab := HAB.out
      by_cases hlt : k < a
      · have hki : (k : Int) < (a : Int) := by omega
        have hsz' := hbl.size
        go_wp2_with (at_builtin; (refine wpList_append_one _ rfl _ _ _ rfl w4.heap.size 3 _ 8 pelemI u12 k (is (List.replicate k (0 : Int))) rfl (.int .i64 0) rfl hown rfl (by simp only [maxLen]; omega) (by omega) hsz' ?_); intro v1 w5 hown1 hg1; have HO := Lib.hid (And.intro hown1 (hbl.grown hg1 hsz' fun g hg => (hown.lt g hg).1)); clear hown1 hg1)
        go_roundw
        case rel => exact ⟨k + 1, by omega, by go_num, by rw [rep_succ, pis_append]; exact HO.out.1, HO.out.2⟩
        case measure => first | (simp [intOf]; done) | (simp [intOf]; omega)
      obtain rfl : a = k := by omega
      have hka : ¬ ((a : Int) < (a : Int)) := by omega
      have HO := Lib.hid (And.intro hown hbl)
      clear hown hbl
      go_wp2
      go_loopw [12, 14] (fun V i wr2 => ∃ k : Nat, k ≤ b ∧ i = .int .i64 k ∧ wr2.ownsRow w4.heap.size 3 1 V (a + k) (is (List.replicate a (0 : Int) ++ List.replicate k 2)) ∧ Below w4.heap.size w4 wr2) (fun _ i _ => b - (intOf i).toNat)
      case atStart => exact ⟨0, by omega, rfl, by simpa using HO.out.1, HO.out.2⟩
      case round =>
        obtain ⟨k, hk, rfl, hown, hbl⟩ := hrel
        by_cases hlt : k < b
        · have hki : (k : Int) < (b : Int) := by omega
          have hsz' := hbl.size
          clear HO
          go_wp2_with (at_builtin; (refine wpList_append_one _ rfl _ _ _ rfl w4.heap.size 3 _ 8 pelemI u12 (a + k) (is (List.replicate a (0 : Int) ++ List.replicate k 2)) rfl (.int .i64 2) rfl hown rfl (by simp only [maxLen]; omega) (by omega) hsz' ?_); intro v1 w5 hown1 hg1; have HO := Lib.hid (And.intro hown1 (hbl.grown hg1 hsz' fun g hg => (hown.lt g hg).1)); clear hown1 hg1)
          go_roundw
          case rel => exact ⟨k + 1, by omega, by go_num, by rw [rep_succ, ← List.append_assoc, pis_append]; exact HO.out.1, HO.out.2⟩
          case measure => first | (simp [intOf]; done) | (simp [intOf]; omega)
        obtain rfl : b = k := by omega
        have hkb : ¬ ((b : Int) < (b : Int)) := by omega
        obtain ⟨As, cs, rfl⟩ := own_slice hown
        have H5 := Lib.hid (GP.below H4.out hbl)
        have HR5 := Lib.hid (Rd.own hown)
        have e3 := isn_rep3 0 a b
        rw [show ((0 : Nat) : Int) = 0 from rfl] at e3
        rw [e3] at HR5
        clear hown hbl HO e3
        obtain ⟨c0, c1, c2, c3, c4, cl⟩ := id H5.out.1
        obtain ⟨a0, a1, a2, a3, al⟩ := id H5.out.2.1
        go_wp2_with fail
        refine (HPl.out _ _ _ (Rd.gp HRd.out H5.out) HR5.out).mono ?_
        clear c0 c1 c2 c3 c4 cl a0 a1 a2 a3 al
        rintro e w6 (⟨hres, _⟩ | ⟨l', q', hres, V, g6, p6, rfl, _, hown, hb⟩)
        · cases hres
        cases hres
        have H6 := Lib.hid (GP.below H5.out hb)
        have O6 := Lib.hid hown
        have HMQ := Lib.hid fun w' c' (h : Rd w' w'.heap.size (some ⟨g6, 0, none⟩) (is q.ps)) => lmoves_any conv soft seq size opn (some ⟨g6, 0, none⟩) n c' q t w' HM.out HQ.out.2 HS.out HQ.out.1 (by have := HSz.out.2; have := HT.out; omega) h
        rw [HMq.out] at HMQ
        generalize hk0 : q.h0 = k0 at *
        generalize hk1 : q.h1 = k1 at *
        generalize hk2 : q.h2 = k2 at *
        clear hb hown hk0 hk1 hk2
        go_wp2_with (first
          | ((with_reducible refine wpList_pool_alloc (o := ⟨_, .alloc _, _, _, _, _⟩) rfl rfl ?_); intro u2 xb hu2 hs2; clear hs2)
          | ((with_reducible refine wpList_pool_store (o := ⟨none, .store _ _ _, _, _, _, _⟩) rfl _ _ rfl _ (some ⟨g6, 0, none⟩) none n 0 p6 0 k0 k1 k2 0 0 0 rfl rfl xb ?_); intro u4 xd hu4; have hv1 := hu2.grown hu4 hu2.size (fun k hk => by injection hk with hk; omega); have H7 := Lib.hid (GP.below H6.out hv1); have XQ := Lib.hid xd; have O7 := Lib.hid (own_below O6.out hv1); clear xb hu2 hu4 hv1 xd; generalize w6.heap.size = bq at XQ ⊢; obtain ⟨c0, c1, c2, c3, c4, cl⟩ := id H7.out.1; obtain ⟨a0, a1, a2, a3, al⟩ := id H7.out.2.1; obtain ⟨b0, b1, b2, b3, bl⟩ := XQ.out.pool)
          | fail)
        refine (HMQ.out _ _ (Rd.own O7.out)).mono ?_
        rintro e w8 ⟨rfl, hb⟩
        have H8 := Lib.hid (GP.below H7.out hb)
        clear hb b0 b1 b2 b3 bl c0 c1 c2 c3 c4 cl a0 a1 a2 a3 al
        go_wp2
        go_ret
        exact ⟨rfl, H8.out.2.2⟩
end Go.Proofs.Ytbhcemipjfdemaa

/-
  The walk of the law ZoneOthers.
-/
import Derived.Test.YtdcidjbgncbcpaaZoneS
namespace Go.Proofs.Ytdcidjbgncbcpaa
open Go.RowKit Geom Zone
set_option linter.unusedVariables false

set_option maxRecDepth 100000 in
set_option maxHeartbeats 4000000 in
theorem law_others (conv soft seq size opn zone off kind : Int) (A : Option Addr) (n cap : Nat) (L : List Z) (w : World) (hm : n ≤ maxLen) (hn : L.length = n) (hr : Rd w w.heap.size A (zc L)) (k0 : 0 ≤ kind) (k1 : kind ≤ 255) :
    Calls Try.prog 7 #[.agg #[.int .i64 conv, .int .i64 soft, .int .i64 seq, .int .i64 size, .int .i64 opn], .slice A n cap, .int .u8 kind, .agg #[.int .i64 zone, .int .i64 off]] w fun e w' => e = .returned (.bool true) ∧ Below w.heap.size w w' := by
  have H0 := Lib.hid (Two.new w conv soft seq size opn zone off 23 26)
  have HB := Lib.hid fun w => rright_any conv soft seq size opn w
  by_cases hok : Ok conv soft seq size opn
  rotate_left
  · rw [ok_no hok] at HB
    go_enter Try.func7, Try.ntmps7
    go_wp2_with fail
    generalize World.alloc _ _ = w0 at H0 ⊢
    refine (awake4_any _).mono ?_
    rintro e w1 ⟨rfl, hb⟩
    have H1 := Lib.hid (Two.below H0.out hb)
    obtain ⟨c0, c1, c2, c3, c4, d0, d1, hlt, hbb⟩ := id H1.out
    clear H0 hb
    go_wp2_with fail
    refine (HB.out _).mono ?_
    rintro e w2 ⟨rfl, hb⟩
    have H2 := Lib.hid (Two.below H1.out hb)
    clear H1 hb c0 c1 c2 c3 c4 d0 d1 hlt hbb
    go_wp2_with fail
    refine (awake4_any _).mono ?_
    rintro e w3 ⟨rfl, hb⟩
    have H3 := Lib.hid (Two.below H2.out hb)
    clear H2 hb
    go_wp2
    go_ret
    exact ⟨rfl, H3.out.one.2⟩
  rw [ok_yes hok] at HB
  have HC := Lib.hid fun w' (h : Two w w' conv soft seq size opn zone off) => rzright_any conv soft seq size opn A n cap L w' hm hn hok.some (hr.one h.one)
  by_cases hfit : Fit conv seq size opn L
  rotate_left
  · rw [fit_no hfit] at HC
    go_enter Try.func7, Try.ntmps7
    go_wp2_with fail
    generalize World.alloc _ _ = w0 at H0 ⊢
    refine (awake4_any _).mono ?_
    rintro e w1 ⟨rfl, hb⟩
    have H1 := Lib.hid (Two.below H0.out hb)
    obtain ⟨c0, c1, c2, c3, c4, d0, d1, hlt, hbb⟩ := id H1.out
    clear H0 hb
    go_wp2_with fail
    refine (HB.out _).mono ?_
    rintro e w2 ⟨rfl, hb⟩
    have H2 := Lib.hid (Two.below H1.out hb)
    clear H1 hb c0 c1 c2 c3 c4 d0 d1 hlt hbb
    obtain ⟨c0, c1, c2, c3, c4, d0, d1, hlt, hbb⟩ := id H2.out
    go_wp2_with fail
    refine (HC.out _ H2.out).mono ?_
    rintro e w3 ⟨rfl, hb⟩
    have H3 := Lib.hid (Two.below H2.out hb)
    clear H2 hb c0 c1 c2 c3 c4 d0 d1 hlt hbb
    go_wp2_with fail
    refine (awake4_any _).mono ?_
    rintro e w4 ⟨rfl, hb⟩
    have H4 := Lib.hid (Two.below H3.out hb)
    clear H3 hb
    go_wp2
    go_ret
    exact ⟨rfl, H4.out.one.2⟩
  rw [fit_yes hfit] at HC
  go_enter Try.func7, Try.ntmps7
  go_wp2_with fail
  generalize World.alloc _ _ = w0 at H0 ⊢
  refine (awake4_any _).mono ?_
  rintro e w1 ⟨rfl, hb⟩
  have H1 := Lib.hid (Two.below H0.out hb)
  obtain ⟨c0, c1, c2, c3, c4, d0, d1, hlt, hbb⟩ := id H1.out
  clear H0 hb
  go_wp2_with fail
  refine (HB.out _).mono ?_
  rintro e w2 ⟨rfl, hb⟩
  have H2 := Lib.hid (Two.below H1.out hb)
  clear H1 hb c0 c1 c2 c3 c4 d0 d1 hlt hbb
  obtain ⟨c0, c1, c2, c3, c4, d0, d1, hlt, hbb⟩ := id H2.out
  go_wp2_with fail
  refine (HC.out _ H2.out).mono ?_
  rintro e w3 ⟨rfl, hb⟩
  have H3 := Lib.hid (Two.below H2.out hb)
  clear H2 hb c0 c1 c2 c3 c4 d0 d1 hlt hbb
  have hkk : 0 ≤ kind % 6 ∧ kind % 6 < 6 := by omega
  have hns := hfit.1
  rw [hn] at hns
  obtain ⟨q1, q2, q3, q4, q5⟩ := hok.some
  have h0 : 0 < n := by omega
  have hn64 : n ≤ 64 := by omega
  have HL5 := Lib.hid (act_length conv soft seq size opn L (kind % 6) zone off)
  have HO := Lib.hid fun j hj => act_other conv soft seq size opn L (kind % 6) zone off (by omega) j hj
  have HA := Lib.hid fun w' (h : Two w w' conv soft seq size opn zone off) => zact_any conv soft seq size opn zone off A n cap L w' (by omega) hn hok.some hns (hr.one h.one) hok.2.2.2.2.2.2.2 (kind % 6) (by omega)
  have HR3 := Lib.hid (hr.one H3.out.one)
  have HN := Lib.hid hn
  clear hfit hns hn HB HC hok hr hkk
  obtain ⟨c0, c1, c2, c3, c4, d0, d1, hlt, hbb⟩ := id H3.out
  go_wp2_with fail
  refine (HA.out _ H3.out).mono ?_
  rintro e w5 ⟨A5, k5, rfl, hr5, _, hb5⟩
  have H5 := Lib.hid (Two.below H3.out hb5)
  have HR5 := Lib.hid hr5
  have HRl := Lib.hid ((HR3.out.below hb5).more hb5.size)
  clear c0 c1 c2 c3 c4 d0 d1 hlt hbb hb5 hr5 HA H3 HR3
  generalize act conv soft seq size opn L (kind % 6) zone off = r at *
  obtain ⟨M, er⟩ := r
  have hM : M.length = n := HL5.out.trans HN.out
  have HP := Lib.hid fun w' (hb : Below w5.heap.size w5 w') => zpower_any A5 n k5 M w' (by omega) hM h0 ((HR5.out.below hb).more hb.size)
  have HP2 := Lib.hid fun A' cap' w' (hr : Rd w' w'.heap.size A' (zc (M.map pow))) => zpower_any A' n cap' (M.map pow) w' (by omega) (by simp [hM]) h0 hr
  rw [pow_twice] at HP2
  have HS := Lib.hid fun A' c' A'' c'' w' (h : Rd w' w'.heap.size A' (zc (M.map pow))) (h2 : Rd w' w'.heap.size A'' (zc (M.map pow))) => rsame_any A' A'' n c' n c'' (M.map pow) (M.map pow) w' (by simp only [maxLen]; omega) (by simp only [maxLen]; omega) (by simp [hM]) (by simp [hM]) w'.heap.size h h2
  rw [beq_self_eq_true] at HS
  have HM := Lib.hid hM
  clear hM HL5
  have qE := neq_zone
  have qG := guard_zone
  obtain ⟨c0, c1, c2, c3, c4, d0, d1, hlt, hbb⟩ := id H5.out
  clear c0 c1 c2 c3 c4
  go_wp2_with fail
  go_loopw [12] (fun i wr => ∃ k : Nat, k ≤ n ∧ i = .int .i64 k ∧ ∃ q, w5.drewN q = wr) (fun i _ => n - (intOf i).toNat)
  case atStart => exact ⟨0, by omega, rfl, 0, rfl⟩
  case round =>
    obtain ⟨k, hk, rfl, q, rfl⟩ := hrel
    by_cases hkn : k < n
    · by_cases hz : (k : Int) = zone
      · have hd : ((k : Int) != zone) = false := by simpa using hz
        go_wp2
        go_quiet (fail)
        go_wp2
        go_roundw
        case rel => exact ⟨k + 1, by omega, by go_num, _, rfl⟩
        case measure => simp [intOf]; omega
      · have hd : ((k : Int) != zone) = true := by simpa using hz
        have hzk := getD_of (L := L) (k := k) (d := (0, 0)) (by rw [HN.out]; exact hkn)
        have hzm := (HO.out k hz).trans hzk
        obtain ⟨ad, rfl, _, e0, e1⟩ := HRl.out.zone hzk
        obtain ⟨ad', rfl, _, f0, f1⟩ := HR5.out.zone hzm
        generalize L.getD k (0, 0) = z at *
        have hq : (!(z.1 == z.1 && z.2 == z.2)) = false := by simp
        clear hzk hzm HP
        go_wp2
        go_quiet (fail)
        go_wp2
        go_roundw
        case rel => exact ⟨k + 1, by omega, by go_num, _, rfl⟩
        case measure => simp [intOf]; omega
    · obtain rfl : n = k := by omega
      clear d0 d1 hlt
      have Bq := Lib.hid (below_draws (Below.refl w5.heap.size w5) q)
      have Bw := Lib.hid (below_draws hbb q)
      clear hbb
      go_wp2_with fail
      refine (HP.out _ Bq.out).mono ?_
      rintro e w6 ⟨g6, k6, rfl, hown6, hb6⟩
      have R6 := Lib.hid (Rd.own hown6)
      have Bw6 := Lib.hid (Bw.out.trans (hb6.mono Bw.out.size))
      clear hown6 hb6
      go_wp2_with fail
      refine (HP2.out _ _ _ R6.out).mono ?_
      rintro e w7 ⟨g7, k7, rfl, hown7, hb7⟩
      have R7 := Lib.hid (Rd.own hown7)
      have R67 := Lib.hid ((R6.out.below hb7).more hb7.size)
      have Bw7 := Lib.hid (bthen Bw6.out hb7)
      clear hown7 hb7
      go_wp2_with fail
      refine (HS.out _ _ _ _ _ R7.out R67.out).mono ?_
      rintro e w8 ⟨rfl, q8, rfl⟩
      go_wp2
      go_ret
      exact ⟨rfl, below_draws Bw7.out q8⟩
end Go.Proofs.Ytdcidjbgncbcpaa

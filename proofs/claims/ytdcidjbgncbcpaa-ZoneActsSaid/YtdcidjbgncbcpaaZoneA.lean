/-
  The walk of the law ZoneActs.
-/
import Derived.Test.YtdcidjbgncbcpaaZoneB
import Derived.Test.YtdcidjbgncbcpaaZoneW
namespace Go.Proofs.Ytdcidjbgncbcpaa
open Go.RowKit Geom Zone
set_option linter.unusedVariables false

set_option maxRecDepth 100000 in
set_option maxHeartbeats 4000000 in
theorem law_acts (conv soft seq size opn zone off kind : Int) (A : Option Addr) (n cap : Nat) (L : List Z) (w : World) (hm : n ≤ maxLen) (hn : L.length = n) (hr : Rd w w.heap.size A (zc L)) (k0 : 0 ≤ kind) (k1 : kind ≤ 255) :
    Calls Try.prog 3 #[.agg #[.int .i64 conv, .int .i64 soft, .int .i64 seq, .int .i64 size, .int .i64 opn], .slice A n cap, .int .u8 kind, .agg #[.int .i64 zone, .int .i64 off]] w fun e w' => e = .returned (.bool true) ∧ Below w.heap.size w w' := by
  have H0 := Lib.hid (Two.new w conv soft seq size opn zone off 23 26)
  have HB := Lib.hid fun w => rright_any conv soft seq size opn w
  by_cases hok : Ok conv soft seq size opn
  rotate_left
  · rw [ok_no hok] at HB
    go_enter Try.func3, Try.ntmps3
    go_wp2_with fail
    generalize World.alloc _ _ = w0 at H0 ⊢
    refine (awake4_any _).mono ?_
    rintro e w1 ⟨rfl, hb⟩
    have H1 := Lib.hid (Two.below H0.out hb)
    obtain ⟨c0, c1, c2, c3, c4, d0, d1, hlt, hbb⟩ := id H1.out
    clear H0 hb
    go_wp2_with fail
    refine (HB.out _).mono ?_
    rintro e w2 ⟨rfl, hb⟩
    have H2 := Lib.hid (Two.below H1.out hb)
    clear H1 hb c0 c1 c2 c3 c4 d0 d1 hlt hbb
    go_wp2_with fail
    refine (awake4_any _).mono ?_
    rintro e w3 ⟨rfl, hb⟩
    have H3 := Lib.hid (Two.below H2.out hb)
    clear H2 hb
    go_wp2
    go_ret
    exact ⟨rfl, H3.out.one.2⟩
  rw [ok_yes hok] at HB
  have hsm := hok.some
  obtain ⟨q1, q2, q3, q4, q5⟩ := id hsm
  obtain ⟨nz, hnz⟩ : ∃ nz : Nat, (nz : Int) = conv + seq := ⟨(conv + seq).toNat, by omega⟩
  have HZR := Lib.hid fun w' (h : Two w w' conv soft seq size opn zone off) => zright_any conv soft seq size opn A n cap L w' hm hn hsm (hr.one h.one)
  have HC := Lib.hid fun w' (h : Two w w' conv soft seq size opn zone off) => rzright_any conv soft seq size opn A n cap L w' hm hn hsm (hr.one h.one)
  have HNew := Lib.hid fun w => new_any conv soft seq size opn nz w hok hnz
  have HrNew := Lib.hid fun w => rnew_any conv soft seq size opn nz w hsm hnz
  have HSN := Lib.hid fun A' c' A'' c'' w' h h2 => rsame_self (A := A') (A' := A'') (cap := c') (cap' := c'') (w := w') (L := newK nz conv.toNat) (n := nz) (by simp only [maxLen]; omega) (newK_length (by omega)) h h2
  by_cases hfit : Fit conv seq size opn L
  rotate_left
  · rw [fit_no hfit] at HC HZR
    clear hok hsm hfit hr hn hm hnz
    go_enter Try.func3, Try.ntmps3
    go_wp2_with fail
    generalize World.alloc _ _ = w0 at H0 ⊢
    refine (awake4_any _).mono ?_
    rintro e w1 ⟨rfl, hb⟩
    have H1 := Lib.hid (Two.below H0.out hb)
    obtain ⟨c0, c1, c2, c3, c4, d0, d1, hlt, hbb⟩ := id H1.out
    clear H0 hb
    go_wp2_with fail
    refine (HB.out _).mono ?_
    rintro e w2 ⟨rfl, hb⟩
    have H2 := Lib.hid (Two.below H1.out hb)
    clear H1 hb c0 c1 c2 c3 c4 d0 d1 hlt hbb
    obtain ⟨c0, c1, c2, c3, c4, d0, d1, hlt, hbb⟩ := id H2.out
    go_wp2_with fail
    have SO := Lib.hid fun w' (h : Below w2.heap.size w2 w') => (⟨(H2.out.below h).1, (H2.out.below h).2.1, (H2.out.below h).2.2.1, (H2.out.below h).2.2.2.1, (H2.out.below h).2.2.2.2.1⟩ :
      w'.cell? ⟨w.heap.size, 0, none⟩ = some (.int .i64 conv) ∧ w'.cell? ⟨w.heap.size, 1, none⟩ = some (.int .i64 soft) ∧ w'.cell? ⟨w.heap.size, 2, none⟩ = some (.int .i64 seq) ∧ w'.cell? ⟨w.heap.size, 3, none⟩ = some (.int .i64 size) ∧ w'.cell? ⟨w.heap.size, 4, none⟩ = some (.int .i64 opn))
    first | go_region_held3 (fun w' => w'.cell? ⟨w.heap.size, 0, none⟩ = some (.int .i64 conv) ∧ w'.cell? ⟨w.heap.size, 1, none⟩ = some (.int .i64 soft) ∧ w'.cell? ⟨w.heap.size, 2, none⟩ = some (.int .i64 seq) ∧ w'.cell? ⟨w.heap.size, 3, none⟩ = some (.int .i64 size) ∧ w'.cell? ⟨w.heap.size, 4, none⟩ = some (.int .i64 opn))
      (first | exact SO.out _ B7 | exact SO.out _ B6 | exact SO.out _ B5 | exact SO.out _ B4 | exact SO.out _ B3 | exact SO.out _ (Below.refl _ _).drew)
      ((first
        | ((with_reducible refine (HZR.out _ (H2.out.drew)).mono ?_); rintro e w3 ⟨rfl, hb3⟩; have B3 : Below w2.heap.size w2 w3 := bthen (Below.refl _ _).drew hb3)
        | ((with_reducible refine (HC.out _ (H2.out.below B3)).mono ?_); rintro e w4 ⟨rfl, hb4⟩; have B4 : Below w2.heap.size w2 w4 := bthen B3 hb4)
        | ((with_reducible refine (HNew.out _).mono ?_); rintro e w5 ⟨g5, rfl, hown5, hb5⟩; have B5 : Below w2.heap.size w2 w5 := bthen B4 hb5; have R5 := Rd.own hown5; clear hown5)
        | ((with_reducible refine (HrNew.out _).mono ?_); rintro e w6 ⟨g6, k6, rfl, hown6, hb6⟩; have B6 : Below w2.heap.size w2 w6 := bthen B5 hb6; have R6 := Rd.own hown6; have R56 := (R5.below hb6).more hb6.size; clear hown6)
        | ((with_reducible refine (HSN.out _ _ _ _ _ R56 R6).mono ?_); rintro e w7 ⟨rfl, q7, rfl⟩; have B7 := below_draws B6 q7))) | fail
    all_goals
      have B7 := Lib.hid (below_draws B6 q7)
      generalize w6.drewN q7 = w7 at B7 ⊢
      have H7 := Lib.hid (H2.out.below B7.out)
      clear SO c0 c1 c2 c3 c4 d0 d1 hlt hbb H2
      obtain ⟨c0, c1, c2, c3, c4, d0, d1, hlt, hbb⟩ := id H7.out
      go_wp2_with fail
      refine (HC.out _ H7.out).mono ?_
      rintro e w8 ⟨rfl, hb⟩
      have H8 := Lib.hid (Two.below H7.out hb)
      clear hb H7 c0 c1 c2 c3 c4 d0 d1 hlt hbb
      go_wp2
      go_ret
      exact ⟨rfl, H8.out.one.2⟩
  rw [fit_yes hfit] at HC HZR
  have hns := hfit.1
  rw [hn] at hns
  have hkk : 0 ≤ kind % 7 ∧ kind % 7 < 7 := by omega
  have HL5 := Lib.hid (act_length conv soft seq size opn L (kind % 7) zone off)
  have HA := Lib.hid fun w' (h : Two w w' conv soft seq size opn zone off) => zact_any conv soft seq size opn zone off A n cap L w' (by omega) hn hsm hns (hr.one h.one) hok.2.2.2.2.2.2.2 (kind % 7) hkk
  have HRA := Lib.hid fun w' (h : Two w w' conv soft seq size opn zone off) => ract_any conv soft seq size opn zone off A n cap L w' (by omega) hn hok hfit (hr.one h.one) (kind % 7) hkk
  have hn64 : n ≤ 64 := by omega
  have HN := Lib.hid hn
  clear hok hsm hfit hr hn hm hnz hns
  go_enter Try.func3, Try.ntmps3
  go_wp2_with fail
  generalize World.alloc _ _ = w0 at H0 ⊢
  refine (awake4_any _).mono ?_
  rintro e w1 ⟨rfl, hb⟩
  have H1 := Lib.hid (Two.below H0.out hb)
  obtain ⟨c0, c1, c2, c3, c4, d0, d1, hlt, hbb⟩ := id H1.out
  clear H0 hb
  go_wp2_with fail
  refine (HB.out _).mono ?_
  rintro e w2 ⟨rfl, hb⟩
  have H2 := Lib.hid (Two.below H1.out hb)
  clear H1 hb c0 c1 c2 c3 c4 d0 d1 hlt hbb
  obtain ⟨c0, c1, c2, c3, c4, d0, d1, hlt, hbb⟩ := id H2.out
  go_wp2_with fail
  have SO := Lib.hid fun w' (h : Below w2.heap.size w2 w') => (⟨(H2.out.below h).1, (H2.out.below h).2.1, (H2.out.below h).2.2.1, (H2.out.below h).2.2.2.1, (H2.out.below h).2.2.2.2.1⟩ :
    w'.cell? ⟨w.heap.size, 0, none⟩ = some (.int .i64 conv) ∧ w'.cell? ⟨w.heap.size, 1, none⟩ = some (.int .i64 soft) ∧ w'.cell? ⟨w.heap.size, 2, none⟩ = some (.int .i64 seq) ∧ w'.cell? ⟨w.heap.size, 3, none⟩ = some (.int .i64 size) ∧ w'.cell? ⟨w.heap.size, 4, none⟩ = some (.int .i64 opn))
  first | go_region_held3 (fun w' => w'.cell? ⟨w.heap.size, 0, none⟩ = some (.int .i64 conv) ∧ w'.cell? ⟨w.heap.size, 1, none⟩ = some (.int .i64 soft) ∧ w'.cell? ⟨w.heap.size, 2, none⟩ = some (.int .i64 seq) ∧ w'.cell? ⟨w.heap.size, 3, none⟩ = some (.int .i64 size) ∧ w'.cell? ⟨w.heap.size, 4, none⟩ = some (.int .i64 opn))
    (first | exact SO.out _ B7 | exact SO.out _ B6 | exact SO.out _ B5 | exact SO.out _ B4 | exact SO.out _ B3 | exact SO.out _ (Below.refl _ _).drew)
    ((first
      | ((with_reducible refine (HZR.out _ (H2.out.drew)).mono ?_); rintro e w3 ⟨rfl, hb3⟩; have B3 : Below w2.heap.size w2 w3 := bthen (Below.refl _ _).drew hb3)
      | ((with_reducible refine (HC.out _ (H2.out.below B3)).mono ?_); rintro e w4 ⟨rfl, hb4⟩; have B4 : Below w2.heap.size w2 w4 := bthen B3 hb4)
      | ((with_reducible refine (HNew.out _).mono ?_); rintro e w5 ⟨g5, rfl, hown5, hb5⟩; have B5 : Below w2.heap.size w2 w5 := bthen B4 hb5; have R5 := Rd.own hown5; clear hown5)
      | ((with_reducible refine (HrNew.out _).mono ?_); rintro e w6 ⟨g6, k6, rfl, hown6, hb6⟩; have B6 : Below w2.heap.size w2 w6 := bthen B5 hb6; have R6 := Rd.own hown6; have R56 := (R5.below hb6).more hb6.size; clear hown6)
      | ((with_reducible refine (HSN.out _ _ _ _ _ R56 R6).mono ?_); rintro e w7 ⟨rfl, q7, rfl⟩; have B7 := below_draws B6 q7))) | fail
  all_goals
    have B7 := Lib.hid (below_draws B6 q7)
    generalize w6.drewN q7 = w7 at B7 ⊢
    have H7 := Lib.hid (H2.out.below B7.out)
    clear SO c0 c1 c2 c3 c4 d0 d1 hlt hbb H2
    obtain ⟨c0, c1, c2, c3, c4, d0, d1, hlt, hbb⟩ := id H7.out
    go_wp2_with fail
    refine (HC.out _ H7.out).mono ?_
    rintro e w8 ⟨rfl, hb⟩
    have H8 := Lib.hid (Two.below H7.out hb)
    clear hb H7 c0 c1 c2 c3 c4 d0 d1 hlt hbb HC HZR HNew HrNew HSN HB R5 R6 R56 B3 B4 B5 B6 hb3 hb4 hb5 hb6
    obtain ⟨c0, c1, c2, c3, c4, d0, d1, hlt, hbb⟩ := id H8.out
    generalize act conv soft seq size opn L (kind % 7) zone off = r at HL5 HA HRA
    obtain ⟨M, er⟩ := r
    have HM := Lib.hid (show M.length = n from HL5.out.trans HN.out)
    clear HL5
    go_wp2_with fail
    refine (HA.out _ H8.out).mono ?_
    rintro e w9 ⟨A9, k9, rfl, hr9, _, hb⟩
    have H9 := Lib.hid (Two.below H8.out hb)
    have R9 := Lib.hid hr9
    clear c0 c1 c2 c3 c4 d0 d1 hlt hbb hb H8 HA hr9
    obtain ⟨c0, c1, c2, c3, c4, d0, d1, hlt, hbb⟩ := id H9.out
    go_wp2_with fail
    refine (HRA.out _ H9.out).mono ?_
    rintro e w10 ⟨A10, k10, rfl, hr10, hb⟩
    have H10 := Lib.hid (Two.below H9.out hb)
    have R10 := Lib.hid hr10
    have R910 := Lib.hid ((R9.out.below hb).more hb.size)
    clear c0 c1 c2 c3 c4 d0 d1 hlt hbb hb H9 HRA hr10 R9
    go_wp2_with fail
    refine (rsame_self (L := M) (by simp only [maxLen]; omega) HM.out R910.out R10.out).mono ?_
    rintro e w11 ⟨rfl, q11, rfl⟩
    go_wp2
    go_ret
    exact ⟨by simp, below_draws H10.out.one.2 q11⟩
end Go.Proofs.Ytdcidjbgncbcpaa

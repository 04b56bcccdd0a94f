/-
  The walk of the law ZoneFills.
-/
import Derived.Test.YtdcidjbgncbcpaaZoneS
import Derived.Test.YtdcidjbgncbcpaaZoneO
namespace Go.Proofs.Ytdcidjbgncbcpaa
open Go.RowKit Geom Zone
set_option linter.unusedVariables false

theorem zwrite_says {conv soft seq size opn zone off e : Int} {A : Option Addr} {n cap : Nat} {L L' : List Z} {w : World} (h : writeL conv soft seq size opn L zone off = (L', e)) (hm : n ≤ 1000) (hn : L.length = n) (H : Some conv seq size) (hns : (n : Int) = conv + seq) (hr : Rd w w.heap.size A (zc L)) (hsoft : soft ≤ 65536) :
    Calls Try.prog 17 #[.agg #[.int .i64 conv, .int .i64 soft, .int .i64 seq, .int .i64 size, .int .i64 opn], .slice A n cap, .agg #[.int .i64 zone, .int .i64 off]] w fun x w' =>
      ∃ g c, x = .returned (.tuple #[.slice (some ⟨g, 0, none⟩) n c, .int .i64 e]) ∧ w'.ownsRow w.heap.size 42 2 (.slice (some ⟨g, 0, none⟩) n c) n (zc L') ∧ Below w.heap.size w w' := by
  have := zwrite_any conv soft seq size opn zone off A n cap L w hm hn H hns hr hsoft
  rw [h] at this
  exact this
theorem zread_says {conv soft seq size opn zone off e : Int} {A : Option Addr} {n cap : Nat} {L : List Z} {w : World} (h : readE conv soft seq size L zone off = e) (hn : L.length = n) (H : Some conv seq size) (hns : (n : Int) = conv + seq) (hr : Rd w w.heap.size A (zc L)) :
    Calls Try.prog 18 #[.agg #[.int .i64 conv, .int .i64 soft, .int .i64 seq, .int .i64 size, .int .i64 opn], .slice A n cap, .agg #[.int .i64 zone, .int .i64 off]] w fun x w' => x = .returned (.int .i64 e) ∧ Below w.heap.size w w' := by
  have := zread_any conv soft seq size opn zone off A n cap L w hn H hns hr
  rw [h] at this
  exact this
theorem zreset_says {conv soft seq size opn zone e : Int} {A : Option Addr} {n cap : Nat} {L L' : List Z} {w : World} (h : turnL (fun _ z => resetZ z) conv seq opn L zone = (L', e)) (hm : n ≤ 1000) (hn : L.length = n) (H : Some conv seq size) (hns : (n : Int) = conv + seq) (hr : Rd w w.heap.size A (zc L)) :
    Calls Try.prog 19 #[.agg #[.int .i64 conv, .int .i64 soft, .int .i64 seq, .int .i64 size, .int .i64 opn], .slice A n cap, .int .i64 zone] w fun x w' =>
      ∃ g c, x = .returned (.tuple #[.slice (some ⟨g, 0, none⟩) n c, .int .i64 e]) ∧ w'.ownsRow w.heap.size 42 2 (.slice (some ⟨g, 0, none⟩) n c) n (zc L') ∧ Below w.heap.size w w' := by
  have := zreset_any conv soft seq size opn zone A n cap L w hm hn H hns hr
  rw [h] at this
  exact this

set_option maxRecDepth 100000 in
set_option maxHeartbeats 4000000 in
theorem law_fills (conv soft seq size opn z : Int) (w : World) (k0 : 0 ≤ z) (k1 : z ≤ 255) :
    Calls Try.prog 5 #[.agg #[.int .i64 conv, .int .i64 soft, .int .i64 seq, .int .i64 size, .int .i64 opn], .int .u8 z] w fun e w' => e = .returned (.bool true) ∧ Below w.heap.size w w' := by
  have H0 := Lib.hid (One.new w conv soft seq size opn 23)
  have HB := Lib.hid fun w => rright_any conv soft seq size opn w
  by_cases hok : Ok conv soft seq size opn
  rotate_left
  · rw [ok_no hok] at HB
    go_enter Try.func5, Try.ntmps5
    go_wp2_with fail
    generalize World.alloc _ _ = w0 at H0 ⊢
    refine (awake4_any _).mono ?_
    rintro e w1 ⟨rfl, hb⟩
    have H1 := Lib.hid (One.below H0.out hb)
    obtain ⟨c0, c1, c2, c3, c4, hlt⟩ := id H1.out.1
    clear H0 hb
    go_wp2_with fail
    refine (HB.out _).mono ?_
    rintro e w2 ⟨rfl, hb⟩
    have H2 := Lib.hid (One.below H1.out hb)
    clear H1 hb c0 c1 c2 c3 c4 hlt
    go_wp2_with fail
    refine (awake4_any _).mono ?_
    rintro e w3 ⟨rfl, hb⟩
    have H3 := Lib.hid (One.below H2.out hb)
    clear H2 hb
    go_wp2
    go_ret
    exact ⟨rfl, H3.out.2⟩
  rw [ok_yes hok] at HB
  have hsm := hok.some
  have ho3 := hok.2.2.2.2.2.1
  have hsoft := hok.2.2.2.2.2.2.2
  obtain ⟨q1, q2, q3, q4, q5⟩ := id hsm
  obtain ⟨n, hns⟩ : ∃ n : Nat, (n : Int) = conv + seq := ⟨(conv + seq).toNat, by omega⟩
  have hm1 := Int.emod_nonneg z (show seq ≠ 0 by omega)
  have hm2 := Int.emod_lt_of_pos z (show 0 < seq by omega)
  obtain ⟨a, hat⟩ : ∃ a : Nat, (a : Int) = conv + z % seq := ⟨(conv + z % seq).toNat, by omega⟩
  have hca : conv ≤ (a : Int) := by omega
  have han : a < n := by omega
  have hcn : conv.toNat ≤ n := by omega
  have HNew := Lib.hid fun w => new_any conv soft seq size opn n w hok hns
  have HW := Lib.hid fun (i : Nat) (hi : (i : Int) < size) A cap w hr => zwrite_says (A := A) (cap := cap) (w := w) (fill_write (soft := soft) hsm hns hca han ho3 hi) (by omega) (fill_length hcn) hsm hns hr hsoft
  have HRd := Lib.hid fun (i : Nat) (hi : (i : Int) < size) A cap w hr => zread_says (opn := opn) (A := A) (cap := cap) (w := w) (fill_read (soft := soft) hsm hns hca han hi) (fill_length hcn) hsm hns hr
  have HW2 := Lib.hid fun (i : Nat) (hi : (i : Int) = size) A cap w hr => zwrite_says (A := A) (cap := cap) (w := w) (fill_last (soft := soft) (opn := opn) hsm hns hca han hi) (by omega) (fill_length hcn) hsm hns hr hsoft
  have HRs := Lib.hid fun (i : Nat) (hi : (i : Int) = size) A cap w hr => zreset_says (soft := soft) (A := A) (cap := cap) (w := w) (fill_reset (opn := opn) hsm hns hca han hi) (by omega) (fill_length hcn) hsm hns hr
  have HF := Lib.hid fun (i : Nat) (hi : (i : Int) = size) => fill_full hsm hca han hi
  have HS := Lib.hid fun A' c' A'' c'' w' (h : Rd w' w'.heap.size A' (zc (newK n conv.toNat))) (h2 : Rd w' w'.heap.size A'' (zc (newK n conv.toNat))) => rsame_any A' A'' n c' n c'' (newK n conv.toNat) (newK n conv.toNat) w' (by simp only [maxLen]; omega) (by simp only [maxLen]; omega) (newK_length hcn) (newK_length hcn) w'.heap.size h h2
  rw [beq_self_eq_true] at HS
  have HZ := Lib.hid (fill_zero (size := size) (show conv.toNat ≤ a by omega) han)
  have HAt := Lib.hid hat
  have Hns := Lib.hid hns
  have hq := IntWalk.i64_in (conv + z % seq) (by omega)
  have hq2 := IntWalk.i64_in (size - 1) (by omega)
  clear hok hsm hns hat ho3 hsoft
  go_enter Try.func5, Try.ntmps5
  go_wp2_with fail
  generalize World.alloc _ _ = w0 at H0 ⊢
  refine (awake4_any _).mono ?_
  rintro e w1 ⟨rfl, hb⟩
  have H1 := Lib.hid (One.below H0.out hb)
  obtain ⟨c0, c1, c2, c3, c4, hlt⟩ := id H1.out.1
  clear H0 hb
  go_wp2_with fail
  refine (HB.out _).mono ?_
  rintro e w2 ⟨rfl, hb⟩
  have H2 := Lib.hid (One.below H1.out hb)
  clear H1 hb c0 c1 c2 c3 c4 hlt
  obtain ⟨c0, c1, c2, c3, c4, hlt⟩ := id H2.out.1
  go_wp2_with fail
  refine (HNew.out _).mono ?_
  rintro e w3 ⟨g, rfl, hown, hb⟩
  have H3 := Lib.hid (One.below H2.out hb)
  have R3 := Lib.hid (Rd.own hown)
  clear H2 hb c0 c1 c2 c3 c4 hlt hown
  obtain ⟨c0, c1, c2, c3, c4, hlt⟩ := id H3.out.1
  have hseq : ¬ seq = 0 := by omega
  go_wp2_with fail
  go_quiet (fail)
  rw [← HAt.out]
  have H4 := Lib.hid (show One w (w3.drewN nq) conv soft seq size opn from ⟨H3.out.1, below_draws H3.out.2 nq⟩)
  have R4 := Lib.hid (show Rd (w3.drewN nq) (w3.drewN nq).heap.size (some ⟨g, 0, none⟩) (zc (fillL n conv.toNat a size 0)) by rw [HZ.out]; exact R3.out)
  generalize w3.drewN nq = w4 at H4 R4 ⊢
  clear H3 R3 c0 c1 c2 c3 c4 hlt hq hm1 hm2
  generalize z % seq = zs
  go_wp2_with fail
  go_loopw [5, 7] (fun l i wr => ∃ k : Nat, (k : Int) ≤ size ∧ i = .int .i64 k ∧ (∃ g c, l = .slice (some ⟨g, 0, none⟩) n c ∧ Rd wr wr.heap.size (some ⟨g, 0, none⟩) (zc (fillL n conv.toNat a size k))) ∧ One w wr conv soft seq size opn) (fun _ i _ => size.toNat - (intOf i).toNat)
  case atStart => exact ⟨0, by omega, rfl, ⟨g, n, rfl, R4.out⟩, H4.out⟩
  case round =>
    clear H4 R4
    obtain ⟨k, hk, rfl, ⟨g, c, rfl, hr⟩, hx⟩ := hrel
    have R5 := Lib.hid hr
    have H5 := Lib.hid hx
    obtain ⟨c0, c1, c2, c3, c4, hlt⟩ := id hx.1
    clear hr hx
    by_cases hks : (k : Int) < size
    · go_wp2_with fail
      refine (HW.out k hks _ _ _ R5.out).mono ?_
      rintro e w5 ⟨g5, k5, rfl, hown, hb⟩
      have H6 := Lib.hid (One.below H5.out hb)
      have R6 := Lib.hid (Rd.own hown)
      clear c0 c1 c2 c3 c4 hlt hown hb H5 R5
      obtain ⟨c0, c1, c2, c3, c4, hlt⟩ := id H6.out.1
      go_wp2_with fail
      refine (HRd.out k hks _ _ _ R6.out).mono ?_
      rintro e w6 ⟨rfl, hb⟩
      have H7 := Lib.hid (One.below H6.out hb)
      have R7 := Lib.hid ((R6.out.below hb).more hb.size)
      clear c0 c1 c2 c3 c4 hlt hb H6 R6
      go_wp2
      go_roundw
      case rel => exact ⟨k + 1, by omega, by go_num, ⟨g5, k5, rfl, R7.out⟩, H7.out⟩
      case measure => simp [intOf]; omega
    · have hke : (k : Int) = size := by omega
      have HKE := Lib.hid hke
      clear hke
      go_wp2_with fail
      refine (HW2.out k HKE.out _ _ _ R5.out).mono ?_
      rintro e w5 ⟨g5, k5, rfl, _, hb⟩
      have H6 := Lib.hid (One.below H5.out hb)
      have R6 := Lib.hid ((R5.out.below hb).more hb.size)
      clear c0 c1 c2 c3 c4 hlt hb H5 R5
      obtain ⟨c0, c1, c2, c3, c4, hlt⟩ := id H6.out.1
      go_wp2_with fail
      refine (HRs.out k HKE.out _ _ _ R6.out).mono ?_
      rintro e w6 ⟨g6, k6, rfl, hown, hb⟩
      have H7 := Lib.hid (One.below H6.out hb)
      have R7 := Lib.hid (Rd.own hown)
      have e0 := (R6.out.below hb).cell0 (zc_get0 (HF.out k HKE.out))
      have hanI : (a : Int) < (n : Int) := by omega
      clear c0 c1 c2 c3 c4 hlt hown hb H6 R6
      obtain ⟨c0, c1, c2, c3, c4, hlt⟩ := id H7.out.1
      go_wp2_with fail
      refine (HNew.out _).mono ?_
      rintro e w7 ⟨g7, rfl, hown, hb⟩
      have H8 := Lib.hid (One.below H7.out hb)
      have R8 := Lib.hid (Rd.own hown)
      have R78 := Lib.hid ((R7.out.below hb).more hb.size)
      clear c0 c1 c2 c3 c4 hlt hown hb H7 R7 e0
      go_wp2_with fail
      refine (HS.out _ _ _ _ _ R78.out R8.out).mono ?_
      rintro e w8 ⟨rfl, q8, rfl⟩
      go_wp2
      go_ret
      exact ⟨rfl, below_draws H8.out.2 q8⟩
end Go.Proofs.Ytdcidjbgncbcpaa

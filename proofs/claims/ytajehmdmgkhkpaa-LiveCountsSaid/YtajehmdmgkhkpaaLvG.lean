/-
  Layer 10's answer: Zone.
-/
import Derived.Test.YtajehmdmgkhkpaaLvF
namespace Go.Proofs.Ytajehmdmgkhkpaa
open Go.RowKit Geom Lv
set_option linter.unusedVariables false

theorem sec_seat {conv soft seq size z : Int} {k : Nat} (hk : (k : Int) < sectors conv soft seq size z) (hz : conv ≤ z) : Seat conv seq size z k := by
  unfold sectors at hk
  split at hk
  · omega
  · split at hk
    · omega
    · exact ⟨by omega, by omega, by omega, hk⟩
theorem sec_pv {conv soft seq size z : Int} {k : Nat} {l : List (Int × Int)} (hk : (k : Int) < sectors conv soft seq size z) (hz : conv ≤ z) : pv conv seq size l (z, (k : Int)) = lk l (num conv seq size z k) ∧ 1 ≤ num conv seq size z k := by
  have hs := sec_seat hk hz
  exact ⟨if_pos hs, (plN_num (a := (z, (k : Int))) hs).2.1⟩
set_option maxRecDepth 100000 in
set_option maxHeartbeats 2000000 in
theorem rzone_any (conv soft seq size opn : Int) (w : World) (H : Some conv seq size) (hs : 0 ≤ soft ∧ soft ≤ 65536) (z : Int) (A : Option Addr) (cap len : Nat) (l : List (Int × Int)) (hl : l.length = len) (hm : len ≤ 100000) (hr : Rd w w.heap.size A (ccs l)) :
    Calls Try.prog 27 #[.agg #[.int .i64 conv, .int .i64 soft, .int .i64 seq, .int .i64 size, .int .i64 opn], .slice A len cap, .int .i64 z] w fun e w' =>
      ∃ V, e = .returned V ∧ w'.ownsRow w.heap.size 50 2 V (zos conv soft seq size l z).length (acs z (zos conv soft seq size l z)) ∧ Below w.heap.size w w' := by
  have hbox := Lies.new w conv soft seq size opn 23 (0, 0)
  have hb0 : Below w.heap.size w (w.alloc (.cells #[.int .i64 conv, .int .i64 soft, .int .i64 seq, .int .i64 size, .int .i64 opn] 23)) := (Below.refl _ _).alloc (Nat.le_refl _) _
  have hsz0 : (w.alloc (.cells #[.int .i64 conv, .int .i64 soft, .int .i64 seq, .int .i64 size, .int .i64 opn] 23)).heap.size = w.heap.size + 1 := by simp
  have HA := Lib.hid fun w => rsectors_any conv soft seq size opn z w H
  have HN := Lib.hid fun w (k : Int) => rnum_any conv soft seq size opn z k w H
  have hsb := sectors_bd (z := z) H hs
  have HP := Lib.hid fun (k : Nat) => sec_pv (conv := conv) (soft := soft) (seq := seq) (size := size) (z := z) (k := k) (l := l)
  have HPL := Lib.hid fun (k : Nat) (h : ¬ conv ≤ z) => pv_low (conv := conv) (seq := seq) (size := size) (l := l) (a := (z, (k : Int))) (fun h2 => h h2.1)
  have HR := Lib.hid hr
  have HL := Lib.hid hl
  unfold zos
  clear H hs hr hl
  generalize sectors conv soft seq size z = s at *
  obtain ⟨S, rfl⟩ : ∃ S : Nat, s = (S : Int) := ⟨s.toNat, by omega⟩
  rw [Int.toNat_natCast]
  have hS : S ≤ 65536 := by omega
  clear hsb
  go_enter Try.func27, Try.ntmps27
  go_wp2_with fail
  generalize World.alloc _ _ = w1 at hbox hb0 hsz0 ⊢
  have H1 := Lib.hid (And.intro hbox (And.intro hb0 hsz0))
  clear hbox hb0 hsz0
  go_loopw [7, 8] (fun o i wr => ∃ k : Nat, k ≤ S ∧ i = .int .i64 k ∧ wr.ownsRow w1.heap.size 50 2 o (zo conv seq size l z k).length (acs z (zo conv seq size l z k)) ∧ Below w1.heap.size w1 wr) (fun _ i _ => S - (intOf i).toNat)
  case atStart => exact ⟨0, by omega, rfl, World.ownsRow_nil _ _ _ _, Below.refl _ _⟩
  case round =>
    obtain ⟨k, hk, rfl, hown, hbl⟩ := hrel
    have HO := Lib.hid (And.intro hown hbl)
    clear hown hbl
    have SO := Lib.hid fun w' (h : Below w1.heap.size w1 w') => (H1.out.1.below h : Lies w' w.heap.size conv soft seq size opn)
    obtain ⟨c0, c1, c2, c3, c4, _⟩ := SO.out _ HO.out.2
    by_cases hlt : k < S
    · have hki : (k : Int) < (S : Int) := by omega
      have HQ := Lib.hid (zo_le (conv := conv) (seq := seq) (size := size) (l := l) z k)
      go_wp2_with fail
      refine (HA.out _).mono ?_
      rintro e w2 ⟨rfl, hb2⟩
      have B2 : Hid (Below w1.heap.size w1 w2) := Lib.hid (HO.out.2.trans (hb2.mono HO.out.2.size))
      have O2 := Lib.hid (own_below HO.out.1 hb2)
      clear hb2 c0 c1 c2 c3 c4 HO
      have B3 := Lib.hid fun o => B2.out.alloc B2.out.size o
      have O3 := Lib.hid fun o => O2.out.alloc o
      have hx := LiesAt.new w2 z k 50 (0, 0)
      obtain ⟨d0, d1, d2, d3, d4, _⟩ := SO.out _ (B3.out (.cells #[.int .i64 z, .int .i64 (k : Int)] 50 (0, 0)))
      by_cases hz : conv ≤ z
      · obtain ⟨hpv, hn1⟩ := HP.out k hki hz
        have HNk := Lib.hid fun w => HN.out w (k : Int)
        have HF := Lib.hid fun w' (h : Below w1.heap.size w1 w') => rfind_any w' A cap len l HL.out hm w.heap.size (HR.out.below (H1.out.2.1.trans (h.mono (by have := H1.out.2.2; omega)))) (num conv seq size z k)
        have hn0 : (0 : Int) < num conv seq size z k := by omega
        cases hb : lk l (num conv seq size z k) with
        | none =>
          rw [fndI_no hb] at HF
          have HG := Lib.hid (zo_no (conv := conv) (seq := seq) (size := size) (l := l) (z := z) (k := k) (by rw [hpv, hb]; rfl))
          clear hpv hb hn1
          generalize num conv seq size z k = n at *
          go_wp2_with fail
          refine (HNk.out _).mono ?_
          rintro e w4 ⟨rfl, hb4⟩
          have B4 : Hid (Below w1.heap.size w1 w4) := Lib.hid ((B3.out _).trans (hb4.mono (B3.out _).size))
          have O4 := Lib.hid (own_below (O3.out _) hb4)
          clear hb4 d0 d1 d2 d3 d4 hx
          go_wp2_with fail
          refine (HF.out _ B4.out).mono ?_
          rintro e w5 ⟨rfl, rfl⟩
          go_wp2
          go_roundw
          case rel => exact ⟨k + 1, by omega, by go_num, by rw [HG.out]; exact O4.out, B4.out⟩
          case measure => first | (simp [intOf]; done) | (simp [intOf]; omega)
        | some v =>
          rw [fndI_yes (by rw [hb]; rfl)] at HF
          have HG := Lib.hid (zo_yes (conv := conv) (seq := seq) (size := size) (l := l) (z := z) (k := k) (by rw [hpv, hb]; rfl))
          clear hpv hb hn1
          generalize num conv seq size z k = n at *
          go_wp2_with fail
          refine (HNk.out _).mono ?_
          rintro e w4 ⟨rfl, hb4⟩
          have B4 : Hid (Below w1.heap.size w1 w4) := Lib.hid ((B3.out _).trans (hb4.mono (B3.out _).size))
          have hown : w4.ownsRow w1.heap.size 50 2 u7 (zo conv seq size l z k).length (acs z (zo conv seq size l z k)) := own_below (O3.out _) hb4
          obtain ⟨a0, a1, _⟩ := hx.below hb4
          clear hb4 d0 d1 d2 d3 d4 hx
          go_wp2_with fail
          refine (HF.out _ B4.out).mono ?_
          rintro e w5 ⟨rfl, rfl⟩
          have hbl := B4.out
          have hsz' := hbl.size
          generalize fd l n = fdn at *
          go_wp2_with (at_builtin; go_loud (refine wpList_append_new _ rfl _ _ _ rfl w1.heap.size 50 _ 2 16 elemAt u7 (zo conv seq size l z k).length _ rfl [.int .i64 z, .int .i64 (k : Int)] rfl hown rfl (by simp [Value.oneCell']) (by have := HQ.out; simp only [maxLen]; omega) (by have := HQ.out; omega) hsz' ?_); intro v1 w6 hown1 hg1; have HO := Lib.hid (And.intro hown1 (hbl.grown hg1 hsz' fun g hg => (hown.lt g hg).1)); clear hown1 hg1)
          go_roundw
          case rel =>
            refine ⟨k + 1, by omega, by go_num, ?_, HO.out.2⟩
            rw [HG.out, List.length_append, acs_snoc]
            exact HO.out.1
          case measure => first | (simp [intOf]; done) | (simp [intOf]; omega)
      · have HG := Lib.hid (zo_no (conv := conv) (seq := seq) (size := size) (l := l) (z := z) (k := k) (by rw [HPL.out k (by omega)]; rfl))
        have hd : decide (conv ≤ z) = false := decide_eq_false hz
        clear hx
        go_wp2
        go_roundw
        case rel => exact ⟨k + 1, by omega, by go_num, by rw [HG.out]; exact O3.out _, B3.out _⟩
        case measure => first | (simp [intOf]; done) | (simp [intOf]; omega)
    · obtain rfl : S = k := by omega
      go_wp2_with fail
      refine (HA.out _).mono ?_
      rintro e w2 ⟨rfl, hb2⟩
      have B2 : Hid (Below w1.heap.size w1 w2) := Lib.hid (HO.out.2.trans (hb2.mono HO.out.2.size))
      have O2 := Lib.hid (own_below HO.out.1 hb2)
      clear hb2
      go_wp2
      go_ret
      exact ⟨_, rfl, own_base0 O2.out (by have := H1.out.2.2; omega), H1.out.2.1.trans (B2.out.mono (by have := H1.out.2.2; omega))⟩
end Go.Proofs.Ytajehmdmgkhkpaa

/-
  The walks of the laws CrcSeals, CrcTears.
-/
import Derived.Test.YtapnjinkadinbaaCrcF
namespace Go.Proofs.Ytapnjinkadinbaa
open Go.RowKit Word Crc
set_option linter.unusedVariables false

theorem sealed_eq (xs ys : List Int) (hx : octets xs) (hy : octets ys) (h4 : ys.length = 4) : (sealed xs == xs ++ ys) = (val ys == ((Crc.sum xs : Nat) : Int)) := by
  have h1 : (sealed xs == xs ++ ys) = (le 4 ((Crc.sum xs : Nat) : Int) == ys) := by
    rw [Bool.eq_iff_iff, beq_iff_eq, beq_iff_eq]
    exact List.append_cancel_left_eq .. |>.to_iff
  rw [h1, Bool.eq_iff_iff, beq_iff_eq, beq_iff_eq]
  have hs := sum_lt hx
  constructor
  · intro h
    rw [← h, val_le]
    exact Int.emod_eq_of_lt (by omega) (by simp; omega)
  · intro h
    rw [← h, ← h4]
    exact le_val ys hy
theorem rightB_eq (zs : List Int) (hb : octets zs) (h4 : 4 ≤ zs.length) : rightB zs = (sealed (zs.take (zs.length - 4)) == zs) := by
  have h := sealed_eq (zs.take (zs.length - 4)) (zs.drop (zs.length - 4)) (fun y hy => hb y (List.mem_of_mem_take hy)) (fun y hy => hb y (List.mem_of_mem_drop hy)) (by simp; omega)
  rw [List.take_append_drop] at h
  rw [h]
  simp [rightB, h4]

set_option maxRecDepth 100000 in
theorem law_seals (A : Option Addr) (len cap : Nat) (zs : List Int) (w : World) (hlen : zs.length = len) (hl : len ≤ maxLen) (hcap : len ≤ cap) (hcm : cap ≤ maxLen) (hb : octets zs) (hr : Rd w w.heap.size A (bs zs)) :
    Calls Try.prog 4 #[.slice A len cap] w fun e w' => e = .returned (.bool true) ∧ Below w.heap.size w w' := by
  have HL := Lib.hid hl
  unfold maxLen at hl
  by_cases hbig : 500 < len
  · have hd : (500 : Int) < len := by omega
    go_enter Try.func4, Try.ntmps4
    go_wp2_with fail
    refine (awake2_any _).mono ?_
    rintro e w1 ⟨rfl, hb1⟩
    go_wp2_with fail
    refine (awake2_any _).mono ?_
    rintro e w2 ⟨rfl, hb2⟩
    go_wp2
    go_ret
    exact ⟨rfl, hb1.trans (hb2.mono hb1.size)⟩
  · have hd : ¬ (500 : Int) < len := by omega
    have HE := Lib.hid hlen
    have HC := Lib.hid hcm
    by_cases h4 : 4 ≤ len
    · have HR := Lib.hid (rightB_eq zs hb (by omega))
      rw [hlen] at HR
      obtain ⟨n, rfl⟩ : ∃ n, len = n + 4 := ⟨len - 4, by omega⟩
      have hbt : octets (zs.take n) := fun y hy => hb y (List.mem_of_mem_take hy)
      have hrt : Rd w w.heap.size A (bs (zs.take n)) := by rw [bs_take]; exact hr.front
      have HT := Lib.hid (show (zs.take n).length = n by simp; omega)
      obtain ⟨ad, rfl, -, -⟩ := hr.at (k := 0) (u := .int .u8 (zs.getD 0 0)) (bs_get (by omega))
      rw [show n + 4 - 4 = n by omega] at HR
      generalize zs.take n = xs at *
      clear hlen
      clear hcm
      have h4' : (4 : Int) ≤ (n : Int) + 4 := by omega
      go_enter Try.func4, Try.ntmps4
      go_wp2_with fail
      refine (awake2_any _).mono ?_
      rintro e w1 ⟨rfl, hb1⟩
      go_wp2_with fail
      have hr1 := (hr.below hb1).more hb1.size
      refine (rseal_any (some ad) n cap xs w1 (by omega) HT.out hbt ((hrt.below hb1).more hb1.size)).mono ?_
      rintro e w2 ⟨A2, c2, rfl, hown2, hb2⟩
      go_wp2_with fail
      refine (same_any A2 (some ad) (n + 4) c2 (n + 4) cap w2 HL.out HL.out (sealed xs) zs (by rw [sealed_length, HT.out]) HE.out w2.heap.size (Rd.own hown2) ((hr1.below hb2).more hb2.size)).mono ?_
      rintro e w3 ⟨rfl, q, rfl⟩
      rw [← HR.out]
      have hb3 := hb1.trans ((below_draws hb2 q).mono hb1.size)
      clear hown2 hb2 hrt hr1 hb1
      generalize w2.drewN q = w3 at *
      have hr3 := (hr.below hb3).more hb3.size
      go_wp2_with fail
      refine (seal_any (some ad) (n + 4) cap zs w3 (by omega) HE.out hb hr3).mono ?_
      rintro e w4 ⟨A4, c4, rfl, hown4, hb4⟩
      have hr4 := (hr3.below hb4).more hb4.size
      go_wp2_with fail
      refine (rseal_any (some ad) (n + 4) cap zs w4 (by omega) HE.out hb hr4).mono ?_
      rintro e w5 ⟨A5, c5, rfl, hown5, hb5⟩
      have hr5 := hr4.below hb5
      have HZ := Lib.hid (show (sealed zs).length = n + 4 + 4 by rw [sealed_length, HE.out])
      go_wp2_with fail
      refine (same_any A4 A5 (n + 4 + 4) c4 (n + 4 + 4) c5 w5 (by unfold maxLen; omega) (by unfold maxLen; omega) (sealed zs) (sealed zs) HZ.out HZ.out w5.heap.size (((Rd.own hown4).below hb5).more hb5.size) (Rd.own hown5)).mono ?_
      rintro e w6 ⟨rfl, q6, rfl⟩
      rw [beq_self_eq_true]
      go_wp2_with fail
      refine (right_any (some ad) (n + 4) cap zs _ (by omega) hcap HC.out HE.out hb _ (hr5.drewN q6)).mono ?_
      rintro e w7 ⟨rfl, q7, rfl⟩
      generalize rightB zs = rb at *
      go_wp2
      go_ret
      exact ⟨ret_bool (by simp), hb3.trans (((hb4.trans (below_draws (hb5.mono hb4.size) (q6 + q7))).mono hb3.size))⟩
    · have HR := Lib.hid (show rightB zs = false by simp [rightB]; omega)
      have h4' : ¬ (4 : Int) ≤ len := by omega
      clear hlen hcm
      go_enter Try.func4, Try.ntmps4
      go_wp2_with fail
      refine (awake2_any _).mono ?_
      rintro e w3 ⟨rfl, hb3⟩
      have hr3 := (hr.below hb3).more hb3.size
      go_wp2_with fail
      refine (seal_any A len cap zs w3 (by omega) HE.out hb hr3).mono ?_
      rintro e w4 ⟨A4, c4, rfl, hown4, hb4⟩
      have hr4 := (hr3.below hb4).more hb4.size
      go_wp2_with fail
      refine (rseal_any A len cap zs w4 (by omega) HE.out hb hr4).mono ?_
      rintro e w5 ⟨A5, c5, rfl, hown5, hb5⟩
      have hr5 := hr4.below hb5
      have HZ := Lib.hid (show (sealed zs).length = len + 4 by rw [sealed_length, HE.out])
      go_wp2_with fail
      refine (same_any A4 A5 (len + 4) c4 (len + 4) c5 w5 (by unfold maxLen; omega) (by unfold maxLen; omega) (sealed zs) (sealed zs) HZ.out HZ.out w5.heap.size (((Rd.own hown4).below hb5).more hb5.size) (Rd.own hown5)).mono ?_
      rintro e w6 ⟨rfl, q6, rfl⟩
      rw [beq_self_eq_true]
      go_wp2_with fail
      refine (right_any A len cap zs _ (by omega) hcap HC.out HE.out hb _ (hr5.drewN q6)).mono ?_
      rintro e w7 ⟨rfl, q7, rfl⟩
      rw [HR.out]
      go_wp2
      go_ret
      exact ⟨rfl, hb3.trans (((hb4.trans (below_draws (hb5.mono hb4.size) (q6 + q7))).mono hb3.size))⟩
end Go.Proofs.Ytapnjinkadinbaa

/-
  The walk of the law CrcKeeps.
-/
import Derived.Test.YtapnjinkadinbaaCrcF
namespace Go.Proofs.Ytapnjinkadinbaa
open Go.RowKit Word Crc
set_option linter.unusedVariables false

theorem right_parts (xs ys : List Int) (h4 : ys.length = 4) : rightB (xs ++ ys) = (val ys == ((Crc.sum xs : Nat) : Int)) := by
  unfold rightB
  have e : (xs ++ ys).length - 4 = xs.length := by simp [h4]
  rw [e, List.drop_left, List.take_left]
  simp [h4]
theorem val_four {xs : List Int} (hb : octets xs) : val (le 4 ((Crc.sum xs : Nat) : Int)) = ((Crc.sum xs : Nat) : Int) := by
  have hs := sum_lt hb
  rw [val_le]
  exact Int.emod_eq_of_lt (by omega) (by simp; omega)
theorem right_sealed {xs : List Int} (hb : octets xs) : rightB (sealed xs) = true := by
  unfold sealed
  rw [right_parts _ _ (le_length _ _), val_four hb]
  exact beq_self_eq_true _
theorem right_turned {xs : List Int} (hb : octets xs) {k : Nat} (hk : k < xs.length + 4) {x : Int} (hx : 0 ≤ x ∧ x ≤ 255) (hne : x ≠ (sealed xs).getD k 0) : rightB ((sealed xs).set k x) = false := by
  unfold sealed at hne ⊢
  by_cases h : k < xs.length
  · rw [List.set_append_left _ _ h, right_parts _ _ (le_length _ _), val_four hb, beq_eq_false_iff_ne]
    intro he
    have he : Crc.sum xs = Crc.sum (xs.set k x) := by omega
    have e1 : xs = xs.take k ++ xs[k] :: xs.drop (k + 1) := by rw [← List.drop_eq_getElem_cons h, List.take_append_drop]
    have e2 : xs.set k x = xs.take k ++ x :: xs.drop (k + 1) := List.set_eq_take_append_cons_drop .. |>.trans (by rw [if_pos h])
    rw [e2] at he
    rw [show Crc.sum xs = Crc.sum (xs.take k ++ xs[k] :: xs.drop (k + 1)) from by rw [← e1]] at he
    have h1 := sum_one (fun y hy => hb y (List.mem_of_mem_take hy)) (fun y hy => hb y (List.mem_of_mem_drop hy)) (hb _ (List.getElem_mem h)) hx he
    apply hne
    rw [List.getD_eq_getElem?_getD, List.getElem?_append_left h, List.getElem?_eq_getElem h]
    exact h1.symm
  · have hl := le_length 4 ((Crc.sum xs : Nat) : Int)
    rw [List.set_append_right _ _ (by omega), right_parts _ _ (by simp [hl]), beq_eq_false_iff_ne]
    intro he
    apply hne
    have hj : k - xs.length < 4 := by omega
    have ho : octets ((le 4 ((Crc.sum xs : Nat) : Int)).set (k - xs.length) x) := by
      intro y hy
      rcases List.mem_or_eq_of_mem_set hy with h | h
      · exact le_bytes _ _ y h
      · rw [h]; exact hx
    have e := le_val _ ho
    rw [List.length_set, hl, he] at e
    rw [List.getD_eq_getElem?_getD, List.getElem?_append_right (by omega), e, List.getElem?_set_self (by rw [hl]; exact hj)]
    rfl
theorem sealed_take (xs : List Int) (n : Nat) (h : xs.length = n) : (sealed xs).take n = xs := by subst h; simp [sealed]

theorem right_xor {xs : List Int} (hb : octets xs) {k : Nat} (hk : k < xs.length + 4) {y : Int} (hy : 0 ≤ y ∧ y ≤ 255) :
    rightB ((sealed xs).set k (bits .xor .u8 ((sealed xs).getD k 0) y)) = (y == 0) := by
  have hc := octets_getD (sealed_octets hb) k
  have hX := u8_xor ((sealed xs).getD k 0) y hc.1 (by omega) hy.1 (by omega)
  by_cases h0 : y = 0
  · subst h0
    have e : bits .xor .u8 ((sealed xs).getD k 0) 0 = (sealed xs).getD k 0 := by rw [hX, show (0 : Int).toNat = 0 from rfl, Nat.xor_zero]; omega
    rw [e]
    have e2 : (sealed xs).set k ((sealed xs).getD k 0) = sealed xs := by
      apply List.ext_getElem?
      intro i
      rw [List.getElem?_set]
      by_cases h : k = i
      · subst h
        rw [if_pos rfl, if_pos (by rw [sealed_length]; exact hk), List.getD_eq_getElem?_getD, List.getElem?_eq_getElem (by rw [sealed_length]; exact hk)]
        rfl
      · rw [if_neg h]
    rw [e2, right_sealed hb]
    rfl
  · rw [show (y == 0) = false from by simp [h0]]
    have hlt := Nat.xor_lt_two_pow (n := 8) (show ((sealed xs).getD k 0).toNat < 2 ^ 8 by omega) (show y.toNat < 2 ^ 8 by omega)
    refine right_turned hb hk ?_ ?_
    · rw [hX]; omega
    · rw [hX]
      intro he
      have h1 : ((sealed xs).getD k 0).toNat ^^^ y.toNat = ((sealed xs).getD k 0).toNat := by omega
      have h2 := congrArg (((sealed xs).getD k 0).toNat ^^^ ·) h1
      simp only [← Nat.xor_assoc, Nat.xor_self, Nat.zero_xor] at h2
      omega

set_option maxRecDepth 100000 in
theorem law_keeps (A : Option Addr) (len cap : Nat) (zs : List Int) (at_ y : Int) (w : World) (hlen : zs.length = len) (hl : len ≤ maxLen) (hb : octets zs) (hr : Rd w w.heap.size A (bs zs))
    (ha : 0 ≤ at_ ∧ at_ ≤ 65535) (hy : 0 ≤ y ∧ y ≤ 255) :
    Calls Try.prog 7 #[.slice A len cap, .int .u16 at_, .int .u8 y] w fun e w' => e = .returned (.bool true) ∧ Below w.heap.size w w' := by
  have HL := Lib.hid hl
  unfold maxLen at hl
  have ha0 := ha.1
  have ha1 := ha.2
  clear ha
  by_cases hbig : 500 < len
  · have hd' : (500 : Int) < len := by omega
    go_enter Try.func7, Try.ntmps7
    go_wp2_with fail
    refine (awake2_any _).mono ?_
    rintro e w1 ⟨rfl, hb1⟩
    go_wp2_with fail
    refine (awake2_any _).mono ?_
    rintro e w2 ⟨rfl, hb2⟩
    go_wp2
    go_ret
    exact ⟨rfl, bthen hb1 hb2⟩
  · have hd' : ¬ (500 : Int) < len := by omega
    obtain ⟨k, hk, hkn⟩ : ∃ k : Nat, at_ % ((len : Int) + 4) = k ∧ k < len + 4 := by
      have h1 := Int.emod_nonneg at_ (show (len : Int) + 4 ≠ 0 by omega)
      have h2 := Int.emod_lt_of_pos at_ (show (0 : Int) < (len : Int) + 4 by omega)
      exact ⟨(at_ % ((len : Int) + 4)).toNat, by omega, by omega⟩
    have HK := Lib.hid hk
    have HE := Lib.hid hlen
    have HS := Lib.hid (bs_length zs)
    have HX := Lib.hid (right_xor (k := k) hb (by omega) hy)
    have HR := Lib.hid (right_sealed hb)
    have HT := Lib.hid (sealed_take zs len hlen)
    have hso := sealed_octets hb
    have HZ := Lib.hid (show (sealed zs).length = len + 4 by rw [sealed_length, hlen])
    have hy0 := hy.1
    have hy1 := hy.2
    clear hlen hy hk
    go_enter Try.func7, Try.ntmps7
    go_wp2_with fail
    refine (awake2_any _).mono ?_
    rintro e w1 ⟨rfl, hb1⟩
    have hr1 := (hr.below hb1).more hb1.size
    clear hr
    go_wp2_with (at_builtin; refine wpList_append_copy _ rfl _ _ _ rfl 5 _ 1 1 elem8 rfl A len cap rfl (bs zs) (by rw [HS.out, HE.out]; omega) hr1 (bs_one zs) HL.out (by omega) ?_; intro A2 c2 w2 hown hb2)
    have hr2 := (hr1.below hb2).more hb2.size
    refine (seal_any A len cap zs w2 (by omega) HE.out hb hr2).mono ?_
    rintro e w3 ⟨A3, c3, rfl, hown3, hb3⟩
    have hr3 := (hr2.below hb3).more hb3.size
    have hcp := own_cap hown3
    obtain ⟨g, rfl, hgb, hgl⟩ := own_at hown3 (by omega)
    have hcp1 := hcp.1
    have HC := Lib.hid hcp.2
    have HNE := Lib.hid fun k e => (hown.lt k e).2
    have HR1 := Lib.hid hr1
    go_wp2_with fail
    refine (right_any (some ⟨g, 0, none⟩) (len + 4) c3 (sealed zs) w3 (by omega) hcp.1 hcp.2 HZ.out hso _ (Rd.own hown3)).mono ?_
    rintro e w4 ⟨rfl, q4, rfl⟩
    rw [HR.out]
    have hown4 := own_drewN hown3 q4
    have hr4 := hr3.drewN q4
    have hb4 := below_draws hb3 q4
    have hown' := own_drewN (own_below hown hb3) q4
    have hsz4 : w3.heap.size = (w3.drewN q4).heap.size := rfl
    rw [hsz4] at hr4 hgl
    clear hown3 hr3 hb3 hown hcp hsz4
    generalize w3.drewN q4 = w4 at *
    have hfr := (Rd.own hown4).front (k := len)
    rw [← bs_take, HT.out] at hfr
    go_wp2_with fail
    refine (same_any (some ⟨g, 0, none⟩) A len c3 len cap w4 HL.out HL.out zs zs HE.out HE.out _ hfr hr4).mono ?_
    rintro e w5 ⟨rfl, q5, rfl⟩
    rw [beq_self_eq_true]
    have hown5 := own_drewN hown4 q5
    have hr5 := hr4.drewN q5
    have hb5 := below_draws hb4 q5
    have hown'' := own_drewN hown' q5
    have hsz5 : w4.heap.size = (w4.drewN q5).heap.size := rfl
    rw [hsz5] at hr5 hgl
    clear hown4 hr4 hb4 hown' hfr hsz5
    generalize w4.drewN q5 = w5 at *
    have hc := (hown5.cellAt k (by omega)).trans (bs_get (by rw [HZ.out]; exact hkn))
    have hz := hown5.frozenAt k
    have hst := hown5.stored k (.int .u8 (bits .xor .u8 ((sealed zs).getD k 0) y))
    rw [← bs_set] at hst
    have hsc := octets_getD hso k
    have hs0 := hsc.1
    have hs1 := hsc.2
    have hso2 : octets ((sealed zs).set k (bits .xor .u8 ((sealed zs).getD k 0) y)) := by
      intro v hv
      rcases List.mem_or_eq_of_mem_set hv with h | h
      · exact hso v h
      · rw [h, u8_xor _ _ hs0 (by omega) hy0 (by omega)]
        have := Nat.xor_lt_two_pow (n := 8) (show ((sealed zs).getD k 0).toNat < 2 ^ 8 by omega) (show y.toNat < 2 ^ 8 by omega)
        omega
    have HZ2 := Lib.hid (show ((sealed zs).set k (bits .xor .u8 ((sealed zs).getD k 0) y)).length = len + 4 by rw [List.length_set, HZ.out])
    have HX2 := Lib.hid HX.out
    generalize (sealed zs).set k (bits .xor .u8 ((sealed zs).getD k 0) y) = ts at *
    generalize (sealed zs).getD k 0 = c0 at *
    have HST := Lib.hid hst
    have HO := Lib.hid hown''
    have HR5 := Lib.hid hr5
    clear hst hown5 hown'' hr5 HX hsc hr1 hr2
    have hk := HK.out
    have HB5 := Lib.hid (hb2.trans (hb5.mono hb2.size))
    have hsz1 := hb2.size
    clear hb2 hb5
    go_wp2_with fail
    have hbs := below_stored HB5.out HST.out.2 HB5.out.size (Nat.le_trans hsz1 hgb)
    have hr6 := HR1.out.below hbs
    have hown6 := HO.out.kept HST.out.2 (.inr (by intro e; have := HNE.out _ e; omega))
    refine (right_any (some ⟨g, 0, none⟩) (len + 4) c3 ts _ (by omega) hcp1 HC.out HZ2.out hso2 _ (Rd.own HST.out.1)).mono ?_
    rintro e w6 ⟨rfl, q6, rfl⟩
    rw [HX2.out]
    clear hk
    generalize w5.setCell _ _ = w6 at *
    have hr7 := hr6.drewN q6
    have hown7 := own_drewN hown6 q6
    have hb7 := below_draws hbs q6
    clear hr6 hown6 hbs
    generalize w6.drewN q6 = w7 at *
    go_wp2_with fail
    refine (same_any A A2 len cap len c2 w7 HL.out HL.out zs zs HE.out HE.out w7.heap.size (hr7.more hb7.size) (Rd.own hown7)).mono ?_
    rintro e w8 ⟨rfl, q8, rfl⟩
    rw [beq_self_eq_true]
    go_wp2
    go_ret
    exact ⟨rfl, bthen hb1 (below_draws hb7 q8)⟩
end Go.Proofs.Ytapnjinkadinbaa

/-
  The document's answers for layer 16: May, Better, Right.
-/
import Derived.Test.YtndjjgabfmplcaaPiC
namespace Go.Proofs.Ytndjjgabfmplcaa
open Go.RowKit Pick
set_option linter.unusedVariables false

set_option maxRecDepth 100000 in
theorem rmay_any (s : Int) (c : Cd) (w : World) :
    Calls Try.prog 8 #[.agg (kcs c).toArray, .int .i64 s] w fun e w' => e = .returned (.bool (decide (May s c))) ∧ Below w.heap.size w w' := by
  obtain ⟨cz, cl, ca⟩ := c
  have HB := Lib.hid ((Below.refl w.heap.size w).alloc (Nat.le_refl _) (.cells #[.int .i64 cz, .int .i64 cl, .int .i64 ca] 23))
  by_cases h1 : 0 ≤ cl
  · by_cases h2 : cl < s
    · by_cases h3 : 0 ≤ ca
      · by_cases h4 : ca ≤ 1099511627776
        · have HD := Lib.hid (show decide (May s ⟨cz, cl, ca⟩) = true from decide_eq_true ⟨⟨h1, h2⟩, h3, h4⟩)
          go_enter Try.func8, Try.ntmps8
          go_wp2
          go_ret
          exact ⟨ret_bool HD.out, HB.out⟩
        · have HD := Lib.hid (show decide (May s ⟨cz, cl, ca⟩) = false from decide_eq_false fun h => h4 h.2.2)
          go_enter Try.func8, Try.ntmps8
          go_wp2
          go_ret
          exact ⟨ret_bool HD.out, HB.out⟩
      · have HD := Lib.hid (show decide (May s ⟨cz, cl, ca⟩) = false from decide_eq_false fun h => h3 h.2.1)
        go_enter Try.func8, Try.ntmps8
        go_wp2
        go_ret
        exact ⟨ret_bool HD.out, HB.out⟩
    · have HD := Lib.hid (show decide (May s ⟨cz, cl, ca⟩) = false from decide_eq_false fun h => h2 h.1.2)
      go_enter Try.func8, Try.ntmps8
      go_wp2
      go_ret
      exact ⟨ret_bool HD.out, HB.out⟩
  · have HD := Lib.hid (show decide (May s ⟨cz, cl, ca⟩) = false from decide_eq_false fun h => h1 h.1.1)
    go_enter Try.func8, Try.ntmps8
    go_wp2
    go_ret
    exact ⟨ret_bool HD.out, HB.out⟩
set_option maxRecDepth 100000 in
set_option maxHeartbeats 4000000 in
theorem rbetter_any (s p : Int) (a b : Cd) (w : World) (hs : Size s) (ha : May s a) (hb : May s b) :
    Calls Try.prog 11 #[.agg (kcs a).toArray, .agg (kcs b).toArray, .int .i64 s, .int .i64 p] w fun e w' => e = .returned (.bool (decide (Bet s p a b))) ∧ Below w.heap.size w w' := by
  obtain ⟨az, al, aa⟩ := a
  obtain ⟨bz, bl, ba⟩ := b
  have HT := Lib.hid (TwoK.new w ⟨az, al, aa⟩ ⟨bz, bl, ba⟩)
  have HE := Lib.hid (bet_eq (s := s) (p := p) (a := ⟨az, al, aa⟩) (b := ⟨bz, bl, ba⟩))
  have HN := Lib.hid (bet_ne (s := s) (p := p) (a := ⟨az, al, aa⟩) (b := ⟨bz, bl, ba⟩))
  have n1 := IntWalk.i64_in (-al) (by have := ha.1; unfold Okc Size at *; simp only at *; omega)
  have n2 := IntWalk.i64_in (-bl) (by have := hb.1; unfold Okc Size at *; simp only at *; omega)
  have n3 := IntWalk.i64_in (0 - al) (by have := ha.1; unfold Okc Size at *; simp only at *; omega)
  have n4 := IntWalk.i64_in (0 - bl) (by have := hb.1; unfold Okc Size at *; simp only at *; omega)
  by_cases hp : p = 1
  · have HW := Lib.hid (show wgt s p ⟨az, al, aa⟩ ⟨bz, bl, ba⟩ = (s - al) * (aa + 1) * (s + bl) ∧ wgt s p ⟨bz, bl, ba⟩ ⟨az, al, aa⟩ = (s - bl) * (ba + 1) * (s + al) from ⟨if_pos hp, if_pos hp⟩)
    have ga : (s - al) * (aa + 1) = gain s ⟨az, al, aa⟩ := rfl
    have gb : (s - bl) * (ba + 1) = gain s ⟨bz, bl, ba⟩ := rfl
    have k1 := IntWalk.i64_in (s - al) (by have := ha.1; unfold Okc Size at *; simp only at *; omega)
    have k2 := IntWalk.i64_in (s - bl) (by have := hb.1; unfold Okc Size at *; simp only at *; omega)
    have k3 := IntWalk.i64_in (s + al) (by have := ha.1; unfold Okc Size at *; simp only at *; omega)
    have k4 := IntWalk.i64_in (s + bl) (by have := hb.1; unfold Okc Size at *; simp only at *; omega)
    have k5 := IntWalk.i64_in (aa + 1) (by have := ha.2; unfold Aged at *; simp only at *; omega)
    have k6 := IntWalk.i64_in (ba + 1) (by have := hb.2; unfold Aged at *; simp only at *; omega)
    have k7 := IntWalk.i64_in ((s - al) * (aa + 1)) (by have := gain_bd hs ha; rw [ga]; omega)
    have k8 := IntWalk.i64_in ((s - bl) * (ba + 1)) (by have := gain_bd hs hb; rw [gb]; omega)
    have k9 := IntWalk.i64_in ((s - al) * (aa + 1) * (s + bl)) (by rw [← HW.out.1]; have := wgt_bd (p := p) hs ha hb; omega)
    have k10 := IntWalk.i64_in ((s - bl) * (ba + 1) * (s + al)) (by rw [← HW.out.2]; have := wgt_bd (p := p) hs hb ha; omega)
    have hpb : (p == 1) = true := by simp [hp]
    rw [HW.out.1, HW.out.2] at HE HN
    clear hs ha hb ga gb HW hp
    generalize decide (Bet s p ⟨az, al, aa⟩ ⟨bz, bl, ba⟩) = bet at *
    by_cases hxy : (s - al) * (aa + 1) * (s + bl) = (s - bl) * (ba + 1) * (s + al)
    · have hq : ((s - al) * (aa + 1) * (s + bl) != (s - bl) * (ba + 1) * (s + al)) = false := by simp [hxy]
      have HR := Lib.hid (HE.out hxy)
      clear hxy HE HN
      go_enter Try.func11, Try.ntmps11
      go_wp2
      go_ret
      exact ⟨ret_bool HR.out, HT.out.2.2⟩
    · have hq : ((s - al) * (aa + 1) * (s + bl) != (s - bl) * (ba + 1) * (s + al)) = true := by simp [hxy]
      have HR := Lib.hid (HN.out hxy)
      clear hxy HE HN
      go_enter Try.func11, Try.ntmps11
      go_wp2
      go_ret
      exact ⟨ret_bool HR.out, HT.out.2.2⟩
  · have HW := Lib.hid (show wgt s p ⟨az, al, aa⟩ ⟨bz, bl, ba⟩ = bl ∧ wgt s p ⟨bz, bl, ba⟩ ⟨az, al, aa⟩ = al from ⟨if_neg hp, if_neg hp⟩)
    have hpb : (p == 1) = false := by simp [hp]
    rw [HW.out.1, HW.out.2] at HE HN
    clear hs ha hb HW hp
    generalize decide (Bet s p ⟨az, al, aa⟩ ⟨bz, bl, ba⟩) = bet at *
    by_cases hxy : bl = al
    · subst hxy
      have hq : (-bl != -bl) = false := by simp
      have HR := Lib.hid (HE.out rfl)
      clear HE HN
      go_enter Try.func11, Try.ntmps11
      go_wp2
      go_ret
      exact ⟨ret_bool HR.out, HT.out.2.2⟩
    · have hq : (-al != -bl) = true := by rw [bne_iff_ne]; omega
      have HR := Lib.hid (HN.out hxy)
      clear hxy HE HN
      go_enter Try.func11, Try.ntmps11
      go_wp2
      go_ret
      exact ⟨ret_bool HR.out, HT.out.2.2⟩
def Pick.ages (l : List Cd) : Bool := l.all fun c => decide (Aged c)
set_option maxRecDepth 100000 in
set_option maxHeartbeats 4000000 in
/-- few candidates, with right ages -/
theorem rright_any16 (A : Option Addr) (n cap : Nat) (l : List Cd) (w : World) (hl : l.length = n) (hm : n ≤ maxLen) (hr : Rd w w.heap.size A (kls l)) :
    Calls Try.prog 12 #[.slice A n cap] w fun e w' => (e = .returned (.bool false) ∨ e = .returned (.bool true) ∧ n ≤ 60 ∧ ∀ x ∈ l, Aged x) ∧ w = w' := by
  have HL := Lib.hid (And.intro hl hr)
  unfold maxLen at hm
  clear hl hr
  go_enter Try.func12, Try.ntmps12
  go_wp2
  go_loop [3] (fun i => ∃ k : Nat, k ≤ n ∧ k ≤ 100 ∧ i = .int .i64 k ∧ ∀ x ∈ l.take k, Aged x) (fun i => n - (intOf i).toNat)
  case atStart => exact ⟨0, by omega, by omega, rfl, by simp⟩
  case round =>
    obtain ⟨k, hk, hk2, rfl, hag⟩ := hrel
    have HA := Lib.hid hag
    clear hag
    by_cases hlt : k < n
    · by_cases h100 : k < 100
      · have hkl : k < l.length := by rw [HL.out.1]; exact hlt
        obtain ⟨c, hc⟩ : ∃ c, l[k]? = some c := ⟨_, List.getElem?_eq_getElem hkl⟩
        obtain ⟨ad, rfl, hadb, c0, c1, c2⟩ := cand_at HL.out.2 hc
        have HT := Lib.hid (show l.take (k + 1) = l.take k ++ [c] by
          obtain ⟨hk, rfl⟩ := List.getElem?_eq_some_iff.1 hc
          exact List.take_succ_eq_append_getElem hk)
        obtain ⟨cz, cl, ca⟩ := c
        simp only at c0 c1 c2
        have hki : (k : Int) < (n : Int) := by omega
        have hki2 : (k : Int) < 100 := by omega
        clear hc hkl
        by_cases h1 : 0 ≤ ca
        · by_cases h2 : ca ≤ 1099511627776
          · have HX : Hid (∀ x ∈ l.take (k + 1), Aged x) := Lib.hid (by
              intro x hx
              rw [HT.out] at hx
              rcases List.mem_append.1 hx with hx | hx
              · exact HA.out x hx
              · rw [List.mem_singleton.1 hx]; exact ⟨h1, h2⟩)
            go_wp2
            go_round
            case rel => exact ⟨k + 1, by omega, by omega, by go_num, HX.out⟩
            case measure => first | (simp [intOf]; done) | (simp [intOf]; omega)
          · go_wp2
            go_ret
            exact ⟨.inl rfl, rfl⟩
        · go_wp2
          go_ret
          exact ⟨.inl rfl, rfl⟩
      · have hk3 : k = 100 := by omega
        have h60 : ¬ (n : Int) ≤ 60 := by omega
        have hki : (k : Int) < (n : Int) := by omega
        have hki2 : ¬ (k : Int) < 100 := by omega
        clear hk hk2 h100 hk3
        go_wp2
        go_ret
        exact ⟨.inl rfl, rfl⟩
    · obtain rfl : n = k := by omega
      have HX : Hid (∀ x ∈ l, Aged x) := Lib.hid (by
        have h := HA.out
        rwa [List.take_of_length_le (by rw [HL.out.1]; exact Nat.le_refl _)] at h)
      clear hk
      by_cases h60 : (n : Int) ≤ 60
      · go_wp2
        go_ret
        exact ⟨.inr ⟨rfl, by omega, HX.out⟩, rfl⟩
      · go_wp2
        go_ret
        exact ⟨.inl rfl, rfl⟩
end Go.Proofs.Ytndjjgabfmplcaa

/-
  'Same', 'SameLeaves' of layer 9's answers: are two lists one?
-/
import Derived.Test.YtcligeajgbibnaaTbH
namespace Go.Proofs.Ytcligeajgbibnaa
open Go.RowKit Leaf Tbl
set_option linter.unusedVariables false

theorem isame_any (A A' : Option Addr) (len cap len' cap' : Nat) (w : World) (hl : len ≤ maxLen) (hl' : len' ≤ maxLen) (xs ys : List Int) (hx : xs.length = len) (hy : ys.length = len')
    (B : Nat) (hr : Rd w B A (is xs)) (hr' : Rd w B A' (is ys)) :
    Calls Try.prog 14 #[.slice A len cap, .slice A' len' cap'] w fun e w' => e = .returned (.bool (xs == ys)) ∧ ∃ n, w.drewN n = w' := by
  have HX := Lib.hid hx
  have HY := Lib.hid hy
  clear hx hy
  unfold maxLen at hl hl'
  by_cases hne : len = len'
  · subst hne
    go_enter Try.func14, Try.ntmps14
    go_wp2
    go_loopw [5] (fun i wr => ∃ k : Nat, k ≤ len ∧ i = .int .i64 k ∧ xs.take k = ys.take k ∧ ∃ n, w.drewN n = wr) (fun i _ => len - (intOf i).toNat)
    case atStart => exact ⟨0, by omega, rfl, rfl, 0, rfl⟩
    case round =>
      obtain ⟨k, hk, rfl, HT, q, rfl⟩ := hrel
      have HT := Lib.hid HT
      by_cases hlt : k < len
      · have hx := hr.at (is_get (k := k) (by rw [HX.out]; omega))
        have hy := hr'.at (is_get (k := k) (by rw [HY.out]; omega))
        obtain ⟨ad, rfl, _, hc⟩ := hx
        obtain ⟨ad', rfl, _, hc'⟩ := hy
        have e : xs.take (k + 1) = xs.take k ++ [xs.getD k 0] := by rw [List.take_succ_eq_append_getElem (by rw [HX.out]; omega)]; simp [HX.out, hlt]
        have e' : ys.take (k + 1) = ys.take k ++ [ys.getD k 0] := by rw [List.take_succ_eq_append_getElem (by rw [HY.out]; omega)]; simp [HY.out, hlt]
        generalize xs.getD k 0 = c at hc e
        generalize ys.getD k 0 = c' at hc' e'
        have HE := Lib.hid e
        have HE' := Lib.hid e'
        clear e e' hr hr'
        by_cases hcc : c = c'
        · subst hcc
          have hq : (c != c) = false := by simp
          go_wp2
          go_quiet (fail)
          go_wp2
          go_roundw
          case rel => exact ⟨k + 1, by omega, by go_num, by rw [HE.out, HE'.out, HT.out], _, rfl⟩
          case measure => simp [intOf]; omega
        · have hq : (c != c') = true := by simp [hcc]
          have hxy : (xs == ys) = false := by
            rw [beq_eq_false_iff_ne]
            rintro rfl
            have h := HE.out.symm.trans HE'.out
            simp at h
            exact hcc h
          have HXY := Lib.hid hxy
          clear hxy
          go_wp2
          go_quiet (fail)
          go_wp2
          go_ret
          exact ⟨ret_bool HXY.out, _, (World.drewN_drewN ..).symm⟩
      · obtain rfl : len = k := by omega
        have HXY := Lib.hid (show (xs == ys) = true by
          have h := HT.out
          rw [List.take_of_length_le (by rw [HX.out]; omega), List.take_of_length_le (by rw [HY.out]; omega)] at h
          rw [h, beq_self_eq_true])
        go_wp2
        go_ret
        exact ⟨ret_bool HXY.out, _, rfl⟩
  · have HXY := Lib.hid (show (xs == ys) = false by
      rw [beq_eq_false_iff_ne]
      rintro rfl
      have h1 := HX.out
      have h2 := HY.out
      omega)
    have hq : ((len : Int) != (len' : Int)) = true := by rw [bne_iff_ne]; omega
    go_enter Try.func14, Try.ntmps14
    go_wp2
    go_ret
    exact ⟨ret_bool HXY.out, 0, rfl⟩

theorem lf_cell {w : World} {B : Nat} {ad : Addr} {ls : List Lf} {k : Nat} {l : Lf} (h : Rd w B (some ad) (lfls ls)) (hin : ∀ l ∈ ls, In l) (hk : ls[k]? = some l) : ∀ j v, (lcs l)[j]? = some v → w.cell? ((ad.add (k * 12)).add j) = some v := fun j v hv => by
  rw [addr_add_add]
  obtain ⟨ad2, e, _, hc⟩ := h.at (lfls_at hin hk hv)
  obtain rfl : ad = ad2 := by injection e
  exact hc
theorem lf_some {w : World} {B : Nat} {A : Option Addr} {ls : List Lf} {k : Nat} {l : Lf} (h : Rd w B A (lfls ls)) (hin : ∀ l ∈ ls, In l) (hk : ls[k]? = some l) : ∃ ad, A = some ad ∧ ad.block < B := by
  obtain ⟨ad, e, hb, _⟩ := h.at (lfls_at hin hk (j := 0) (v := .int .i64 l.gen) rfl)
  exact ⟨ad, e, hb⟩
set_option maxRecDepth 100000 in
theorem isameLeaves_any (A A' : Option Addr) (len cap len' cap' : Nat) (w : World) (hl : len ≤ maxLen) (hl' : len' ≤ maxLen) (xs ys : List Lf) (hx : xs.length = len) (hy : ys.length = len') (ix : ∀ l ∈ xs, In l) (iy : ∀ l ∈ ys, In l)
    (B : Nat) (hr : Rd w B A (lfls xs)) (hr' : Rd w B A' (lfls ys)) :
    Calls Try.prog 21 #[.slice A len cap, .slice A' len' cap'] w fun e w' => (∃ b, e = .returned (.bool b) ∧ (b = true ↔ xs = ys)) ∧ ∃ n, w.drewN n = w' := by
  obtain ⟨m, hm, hsz⟩ := big_size (P := Try.prog) (t := 50) (s := 12) (by kernel_rfl)
  have hm0 : ¬ m = 0 := by omega
  have HM := Lib.hid hm
  have HX := Lib.hid hx
  have HY := Lib.hid hy
  have HR := Lib.hid (And.intro hr hr')
  have HI := Lib.hid (And.intro ix iy)
  have hgd := guard_leaf
  clear hx hy hm hr hr' ix iy
  unfold maxLen at hl hl'
  by_cases hne : len = len'
  · subst hne
    go_enter Try.func21, Try.ntmps21
    go_wp2
    go_loopw [5] (fun i wr => ∃ k : Nat, k ≤ len ∧ i = .int .i64 k ∧ xs.take k = ys.take k ∧ ∃ n, w.drewN n = wr) (fun i _ => len - (intOf i).toNat)
    case atStart => exact ⟨0, by omega, rfl, rfl, 0, rfl⟩
    case round =>
      obtain ⟨k, hk, rfl, HT, q, rfl⟩ := hrel
      have HT := Lib.hid HT
      by_cases hlt : k < len
      · have hkx : k < xs.length := by rw [HX.out]; omega
        have hky : k < ys.length := by rw [HY.out]; omega
        obtain ⟨a, ha⟩ : ∃ a, xs[k]? = some a := ⟨xs[k], by simp [hkx]⟩
        obtain ⟨b, hb⟩ : ∃ b, ys[k]? = some b := ⟨ys[k], by simp [hky]⟩
        obtain ⟨ad, rfl, _⟩ := lf_some HR.out.1 HI.out.1 ha
        obtain ⟨ad', rfl, _⟩ := lf_some HR.out.2 HI.out.2 hb
        have ia := HI.out.1 a (List.mem_of_getElem? ha)
        have ib := HI.out.2 b (List.mem_of_getElem? hb)
        have hla := fun j : Nat => big_load Try.prog (ad.add (k * m)) (lcs a) m (by rw [lcs_length ia, HM.out]) (w.drewN j) (by rw [HM.out]; exact lf_cell HR.out.1 HI.out.1 ha)
        have hlb := fun j : Nat => big_load Try.prog (ad'.add (k * m)) (lcs b) m (by rw [lcs_length ib, HM.out]) (w.drewN j) (by rw [HM.out]; exact lf_cell HR.out.2 HI.out.2 hb)
        have heq := fun w' => equal_leaf w' a b ia ib
        have e : xs.take (k + 1) = xs.take k ++ [a] := by
          rw [List.take_succ_eq_append_getElem hkx]
          obtain ⟨_, rfl⟩ := List.getElem?_eq_some_iff.1 ha
          rfl
        have e' : ys.take (k + 1) = ys.take k ++ [b] := by
          rw [List.take_succ_eq_append_getElem hky]
          obtain ⟨_, rfl⟩ := List.getElem?_eq_some_iff.1 hb
          rfl
        have HE := Lib.hid (And.intro e e')
        have hki : (k : Int) < (len : Int) := by omega
        clear e e' ha hb hkx hky
        cases hcc : lfEq a b
        · rw [hcc] at heq
          have HXY : Hid (¬ xs = ys) := Lib.hid (by
            rintro rfl
            have h := HE.out.1.symm.trans HE.out.2
            have h2 : a = b := by simpa using h
            rw [(lfEq_iff a b).2 h2] at hcc
            cases hcc)
          clear hcc
          go_wp2
          go_quiet (fail)
          go_wp2
          go_ret
          exact ⟨⟨_, rfl, by constructor <;> intro h; cases h; exact absurd h HXY.out⟩, _, (World.drewN_drewN ..).symm⟩
        · rw [hcc] at heq
          obtain rfl := (lfEq_iff a b).1 hcc
          clear hcc
          go_wp2
          go_quiet (fail)
          go_wp2
          go_roundw
          case rel => exact ⟨k + 1, by omega, by go_num, by rw [HE.out.1, HE.out.2, HT.out], _, rfl⟩
          case measure => simp [intOf]; omega
      · obtain rfl : len = k := by omega
        have HXY : Hid (xs = ys) := Lib.hid (by
          have h := HT.out
          rwa [List.take_of_length_le (by rw [HX.out]; omega), List.take_of_length_le (by rw [HY.out]; omega)] at h)
        go_wp2
        go_ret
        exact ⟨⟨_, rfl, fun _ => HXY.out, fun _ => rfl⟩, _, rfl⟩
  · have HXY : Hid (¬ xs = ys) := Lib.hid (by
      rintro rfl
      have h1 := HX.out
      have h2 := HY.out
      omega)
    have hq : ((len : Int) != (len' : Int)) = true := by rw [bne_iff_ne]; omega
    go_enter Try.func21, Try.ntmps21
    go_wp2
    go_ret
    exact ⟨⟨_, rfl, by constructor <;> intro h; cases h; exact absurd h HXY.out⟩, 0, rfl⟩
end Go.Proofs.Ytcligeajgbibnaa

/-
  Pairs in cells; places that are compared; the document's answer for layer 10: Same.
-/
import Derived.Test.YtbhcemipjfdemaaIsa
import Derived.Test.YtbhcemipjfdemaaGeomO
import Derived.Laws.StructEq
namespace Go.Proofs.Ytbhcemipjfdemaa
open Go.RowKit Geom
set_option linter.unusedVariables false

/-- pairs in cells -/
def pcells (x : Int × Int) : List Value := [.int .i64 x.1, .int .i64 x.2]
def ccs (l : List (Int × Int)) : List Value := l.flatMap pcells
theorem ccs_cons (x : Int × Int) (l : List (Int × Int)) : ccs (x :: l) = pcells x ++ ccs l := rfl
theorem ccs_append (l r : List (Int × Int)) : ccs (l ++ r) = ccs l ++ ccs r := by simp [ccs]
theorem ccs_length (l : List (Int × Int)) : (ccs l).length = l.length * 2 := by
  induction l with
  | nil => rfl
  | cons x l ih =>
    rw [ccs_cons, List.length_append, ih]
    simp [pcells]
    omega
theorem ccs_one (l : List (Int × Int)) : ∀ u ∈ ccs l, u.oneCell' = true := by
  intro u hu
  obtain ⟨x, _, hu⟩ := List.mem_flatMap.1 hu
  simp [pcells] at hu
  rcases hu with rfl | rfl <;> rfl
theorem ccs_at {l : List (Int × Int)} {k j : Nat} {x : Int × Int} {v : Value} (hk : l[k]? = some x) (hv : (pcells x)[j]? = some v) : (ccs l)[k * 2 + j]? = some v := by
  induction l generalizing k with
  | nil => simp at hk
  | cons y l ih =>
    rw [ccs_cons]
    cases k with
    | zero =>
      obtain rfl : y = x := by simpa using hk
      have hj : j < (pcells y).length := (List.getElem?_eq_some_iff.1 hv).1
      rw [Nat.zero_mul, Nat.zero_add, List.getElem?_append_left hj]
      exact hv
    | succ k =>
      have hx : (pcells y).length = 2 := rfl
      rw [List.getElem?_append_right (by omega), hx, show (k + 1) * 2 + j - 2 = k * 2 + j by omega]
      exact ih (by simpa using hk)
theorem ccs_take (l : List (Int × Int)) (k : Nat) : ccs (l.take k) = (ccs l).take (k * 2) := by
  induction l generalizing k with
  | nil => simp [ccs]
  | cons x l ih =>
    cases k with
    | zero => rfl
    | succ k =>
      rw [List.take_succ_cons, ccs_cons, ccs_cons, ih, show (k + 1) * 2 = k * 2 + 1 + 1 by omega]
      rfl
theorem ccs_drop (l : List (Int × Int)) (k : Nat) : ccs (l.drop k) = (ccs l).drop (k * 2) := by
  induction l generalizing k with
  | nil => simp [ccs]
  | cons x l ih =>
    cases k with
    | zero => rfl
    | succ k =>
      rw [List.drop_succ_cons, ccs_cons, ih, show (k + 1) * 2 = k * 2 + 1 + 1 by omega]
      rfl
theorem ccs_inj {l r : List (Int × Int)} (h : ccs l = ccs r) : l = r := by
  induction l generalizing r with
  | nil =>
    cases r with
    | nil => rfl
    | cons y r => simp [ccs, pcells] at h
  | cons x l ih =>
    cases r with
    | nil => simp [ccs, pcells] at h
    | cons y r =>
      rw [ccs_cons, ccs_cons] at h
      simp [pcells] at h
      rw [ih h.2.2, Prod.ext h.1 h.2.1]
theorem pair_at {w : World} {B : Nat} {A : Option Addr} {l : List (Int × Int)} {k : Nat} {x : Int × Int} (h : Rd w B A (ccs l)) (hk : l[k]? = some x) :
    ∃ ad, A = some ad ∧ ad.block < B ∧ w.cell? (ad.add (k * 2)) = some (.int .i64 x.1) ∧ w.cell? ⟨(ad.add (k * 2)).block, (ad.add (k * 2)).off + 1, none⟩ = some (.int .i64 x.2) := by
  obtain ⟨ad, rfl, hb, hc⟩ := h.at (ccs_at hk (j := 0) (v := .int .i64 x.1) rfl)
  refine ⟨ad, rfl, hb, hc, ?_⟩
  have e : (⟨(ad.add (k * 2)).block, (ad.add (k * 2)).off + 1, none⟩ : Addr) = (ad.add (k * 2)).add 1 := by
    conv => rhs; unfold Addr.add
    rfl
  rw [e, addr_add_add]
  obtain ⟨ad2, e2, _, h2⟩ := h.at (ccs_at hk (j := 1) (v := .int .i64 x.2) rfl)
  obtain rfl : ad = ad2 := by injection e2
  exact h2
theorem guard_at : Try.prog.eqGuardType Try.prog.depth 48 = false := by kernel_rfl
theorem equal_at (w : World) (a b c d : Int) : (Op.equalIn 10000 48 (.agg #[.int .i64 a, .int .i64 b]) (.agg #[.int .i64 c, .int .i64 d])).run Try.prog w = .ok (a == c && b == d) w := by
  rw [run_equalIn_agg _ _ _ _ _ (by kernel_rfl) (by kernel_rfl)]
  simp [go_sem, Try.underlying48, Try.underlying3]
  by_cases h1 : a = c <;> by_cases h2 : b = d <;> simp [h1, h2]
theorem neq_at (w : World) (a b c d : Int) : (binOp .neq 48 (.agg #[.int .i64 a, .int .i64 b]) (.agg #[.int .i64 c, .int .i64 d])).run Try.prog w = .ok (.bool (!(a == c && b == d))) w := by
  rw [run_neq_struct, equal_at]
  rfl
theorem elemAt : Elem Try.prog 32 48 (.agg #[.int .i64 0, .int .i64 0]) 2 16 := .of Try.underlying32 (by kernel_rfl) rfl (by omega)
set_option maxRecDepth 100000 in
theorem rsame_any (A A' : Option Addr) (len cap len' cap' : Nat) (w : World) (hl : len ≤ maxLen) (hl' : len' ≤ maxLen) (xs ys : List (Int × Int)) (hx : xs.length = len) (hy : ys.length = len')
    (B : Nat) (hr : Rd w B A (ccs xs)) (hr' : Rd w B A' (ccs ys)) :
    Calls Try.prog 15 #[.slice A len cap, .slice A' len' cap'] w fun e w' => e = .returned (.bool (xs == ys)) ∧ ∃ n, w.drewN n = w' := by
  have HX := Lib.hid hx
  have HY := Lib.hid hy
  have HR := Lib.hid (And.intro hr hr')
  have hgd := guard_at
  have hqa := neq_at
  clear hx hy hr hr'
  unfold maxLen at hl hl'
  by_cases hne : len = len'
  · subst hne
    go_enter Try.func15, Try.ntmps15
    go_wp2
    go_loopw [5] (fun i wr => ∃ k : Nat, k ≤ len ∧ i = .int .i64 k ∧ xs.take k = ys.take k ∧ ∃ n, w.drewN n = wr) (fun i _ => len - (intOf i).toNat)
    case atStart => exact ⟨0, by omega, rfl, rfl, 0, rfl⟩
    case round =>
      obtain ⟨k, hk, rfl, HT, q, rfl⟩ := hrel
      have HT := Lib.hid HT
      by_cases hlt : k < len
      · have hkx : k < xs.length := by rw [HX.out]; omega
        have hky : k < ys.length := by rw [HY.out]; omega
        obtain ⟨a, ha⟩ : ∃ a, xs[k]? = some a := ⟨xs[k], by simp [hkx]⟩
        obtain ⟨b, hb⟩ : ∃ b, ys[k]? = some b := ⟨ys[k], by simp [hky]⟩
        obtain ⟨ad, rfl, _, a0, a1⟩ := pair_at HR.out.1 ha
        obtain ⟨ad', rfl, _, b0, b1⟩ := pair_at HR.out.2 hb
        have e : xs.take (k + 1) = xs.take k ++ [a] := by
          rw [List.take_succ_eq_append_getElem hkx]
          obtain ⟨_, rfl⟩ := List.getElem?_eq_some_iff.1 ha
          rfl
        have e' : ys.take (k + 1) = ys.take k ++ [b] := by
          rw [List.take_succ_eq_append_getElem hky]
          obtain ⟨_, rfl⟩ := List.getElem?_eq_some_iff.1 hb
          rfl
        have HE := Lib.hid (And.intro e e')
        have hki : (k : Int) < (len : Int) := by omega
        clear e e' ha hb hkx hky
        cases hcc : (!(a.1 == b.1 && a.2 == b.2))
        · have hab : a = b := by
            simp at hcc
            exact Prod.ext hcc.1 hcc.2
          subst hab
          generalize a.1 = p at *
          generalize a.2 = r at *
          go_wp2
          go_quiet (fail)
          go_wp2
          go_roundw
          case rel => exact ⟨k + 1, by omega, by go_num, by rw [HE.out.1, HE.out.2, HT.out], _, rfl⟩
          case measure => simp [intOf]; omega
        · have HXY : Hid ((xs == ys) = false) := Lib.hid (by
            rw [beq_eq_false_iff_ne]
            rintro rfl
            have h := HE.out.1.symm.trans HE.out.2
            have h2 : a = b := by simpa using h
            rw [h2] at hcc
            simp at hcc)
          generalize a.1 = p at *
          generalize a.2 = r at *
          generalize b.1 = p' at *
          generalize b.2 = r' at *
          go_wp2
          go_quiet (fail)
          go_wp2
          go_ret
          exact ⟨ret_bool HXY.out, _, (World.drewN_drewN ..).symm⟩
      · obtain rfl : len = k := by omega
        have HXY : Hid ((xs == ys) = true) := Lib.hid (by
          have h := HT.out
          rw [List.take_of_length_le (by rw [HX.out]; omega), List.take_of_length_le (by rw [HY.out]; omega)] at h
          rw [h, beq_self_eq_true])
        go_wp2
        go_ret
        exact ⟨ret_bool HXY.out, _, rfl⟩
  · have HXY := Lib.hid (show (xs == ys) = false by
      rw [beq_eq_false_iff_ne]
      rintro rfl
      have h1 := HX.out
      have h2 := HY.out
      omega)
    have hq : ((len : Int) != (len' : Int)) = true := by rw [bne_iff_ne]; omega
    go_enter Try.func15, Try.ntmps15
    go_wp2
    go_ret
    exact ⟨ret_bool HXY.out, 0, rfl⟩
end Go.Proofs.Ytbhcemipjfdemaa

/-
  Layer 9's answers: Of.
-/
import Derived.Test.YtcligeajgbibnaaTbM
namespace Go.Proofs.Ytcligeajgbibnaa
open Go.RowKit Leaf Tbl
set_option linter.unusedVariables false

namespace Tbl
/-- the last leaf of that index among the first m, -1 if there is none -/
def fndT (ls : List Lf) (i : Nat) : Nat → Int
  | 0 => -1
  | m + 1 => if (ls.getD m lf0).index = (i : Int) then (m : Int) else fndT ls i m
theorem fnd_zero (ls : List Lf) (i : Nat) : fndT ls i 0 = -1 := rfl
theorem fnd_yes {ls : List Lf} {i m : Nat} (h : (ls.getD m lf0).index = (i : Int)) : fndT ls i (m + 1) = m := by rw [fndT, if_pos h]
theorem fnd_no {ls : List Lf} {i m : Nat} (h : ¬ (ls.getD m lf0).index = (i : Int)) : fndT ls i (m + 1) = fndT ls i m := by rw [fndT, if_neg h]
theorem fnd_range (ls : List Lf) (i : Nat) : ∀ m, fndT ls i m = -1 ∨ ∃ k, k < m ∧ fndT ls i m = (k : Int) ∧ (ls.getD k lf0).index = (i : Int)
  | 0 => .inl rfl
  | m + 1 => by
    by_cases h : (ls.getD m lf0).index = (i : Int)
    · exact .inr ⟨m, by omega, fnd_yes h, h⟩
    · rw [fnd_no h]
      rcases fnd_range ls i m with h2 | ⟨k, h1, h2, h3⟩
      · exact .inl h2
      · exact .inr ⟨k, by omega, h2, h3⟩
theorem fnd_has {ls : List Lf} {i : Nat} : ∀ {m k : Nat}, k < m → (ls.getD k lf0).index = (i : Int) → ¬ fndT ls i m = -1
  | 0, _, h, _ => by omega
  | m + 1, k, hk, h => by
    by_cases h2 : (ls.getD m lf0).index = (i : Int)
    · rw [fnd_yes h2]; omega
    · rw [fnd_no h2]
      exact fnd_has (k := k) (by
        have : k ≠ m := fun e => h2 (e ▸ h)
        omega) h
def RowOk (n i : Nat) (l : Lf) : Prop := ∀ j, j < 10 → okP n i j (l.places.getD j 0)
def lfAt (ls : List Lf) (i : Nat) : Lf := ls.getD (fndT ls i ls.length).toNat lf0
def RofRow (n : Nat) (ls : List Lf) (i : Nat) : Prop := ¬ fndT ls i ls.length = -1 ∧ RowOk n i (lfAt ls i)
def RofOk (n : Nat) (ls : List Lf) : Prop := ls.length = pages n ∧ ∀ i, i < pages n → RofRow n ls i
def yT (ls : List Lf) (i : Nat) : List Int := (List.range i).flatMap fun q => (lfAt ls q).places
theorem yT_zero (ls : List Lf) : yT ls 0 = [] := rfl
theorem yT_succ (ls : List Lf) (i : Nat) : yT ls (i + 1) = yT ls i ++ (lfAt ls i).places := by
  unfold yT
  rw [List.range_succ, List.flatMap_append]
  simp
theorem lfAt_in {ls : List Lf} (h : ∀ l ∈ ls, In l) (i : Nat) : In (lfAt ls i) := by
  unfold lfAt
  rw [List.getD_eq_getElem?_getD]
  cases hq : ls[(fndT ls i ls.length).toNat]? with
  | none => exact lf0_in
  | some l => exact h l (List.mem_of_getElem? hq)
theorem yT_length {ls : List Lf} (h : ∀ l ∈ ls, In l) (i : Nat) : (yT ls i).length = 10 * i := by
  induction i with
  | zero => rfl
  | succ i ih =>
    have := lfAt_in h i
    unfold In at this
    rw [yT_succ, List.length_append, ih, this]
    omega
/-- what stands in out behind j places of leaf i -/
def outT (n : Nat) (ls : List Lf) (i j : Nat) : List Int := (yT ls i ++ (lfAt ls i).places.take j).take n
theorem take_snoc {α : Type} {a : List α} {x : α} {n : Nat} (h : a.length < n) : (a ++ [x]).take n = a.take n ++ [x] := by
  rw [List.take_of_length_le (by simp; omega), List.take_of_length_le (by omega)]
theorem outT_yes {n : Nat} {ls : List Lf} {i j : Nat} (h : ∀ l ∈ ls, In l) (hj : j < 10) (hn : i * 10 + j < n) : outT n ls i (j + 1) = outT n ls i j ++ [(lfAt ls i).places.getD j 0] := by
  have h1 := yT_length h i
  have h2 := lfAt_in h i
  unfold In at h2
  have hl : (yT ls i ++ (lfAt ls i).places.take j).length = i * 10 + j := by rw [List.length_append, h1, List.length_take]; omega
  unfold outT
  rw [List.take_succ_eq_append_getElem (by omega), ← List.append_assoc, take_snoc (by rw [hl]; exact hn)]
  simp [List.getD_eq_getElem?_getD, h2, hj]
theorem outT_no {n : Nat} {ls : List Lf} {i j : Nat} (h : ∀ l ∈ ls, In l) (hj : j < 10) (hn : ¬ i * 10 + j < n) : outT n ls i (j + 1) = outT n ls i j := by
  have h1 := yT_length h i
  have h2 := lfAt_in h i
  unfold In at h2
  have hl : (yT ls i ++ (lfAt ls i).places.take j).length = i * 10 + j := by rw [List.length_append, h1, List.length_take]; omega
  unfold outT
  rw [List.take_succ_eq_append_getElem (by omega), ← List.append_assoc, List.take_append_of_le_length (by omega)]
theorem outT_len {n : Nat} {ls : List Lf} {i j : Nat} : (outT n ls i j).length ≤ n := by unfold outT; rw [List.length_take]; omega
theorem outT_next {n : Nat} {ls : List Lf} {i : Nat} (h : ∀ l ∈ ls, In l) : outT n ls i 10 = outT n ls (i + 1) 0 := by
  have h2 := lfAt_in h i
  unfold In at h2
  have e : (lfAt ls i).places.take 10 = (lfAt ls i).places := List.take_of_length_le (by omega)
  unfold outT
  rw [yT_succ, e, List.take_zero, List.append_nil]
theorem outT_first (n : Nat) (ls : List Lf) : outT n ls 0 0 = [] := by simp [outT, yT_zero]
theorem outT_last (n : Nat) (ls : List Lf) (i : Nat) : outT n ls i 0 = (yT ls i).take n := by simp [outT]
end Tbl
theorem lf_field {w : World} {B : Nat} {ad : Addr} {ls : List Lf} {k : Nat} {l : Lf} (h : Rd w B (some ad) (lfls ls)) (hin : ∀ l ∈ ls, In l) (hk : ls[k]? = some l) {j : Nat} {v : Value} (hj : 1 ≤ j) (hv : (lcs l)[j]? = some v) :
    w.cell? ⟨(ad.add (k * 12)).block, (ad.add (k * 12)).off + j, none⟩ = some v := by
  have e : (⟨(ad.add (k * 12)).block, (ad.add (k * 12)).off + j, none⟩ : Addr) = (ad.add (k * 12)).add j := by
    conv => rhs; unfold Addr.add
    rw [if_neg (by omega)]
    rfl
  rw [e]
  exact lf_cell h hin hk j v hv
theorem rof_arg (b : Int) (A : Option Addr) (len cap : Nat) (w : World) (hb : rightN b = false) :
    Calls Try.prog 20 #[.int .i64 b, .slice A len cap] w fun e w' => e = .returned (.tuple #[.slice none 0 0, .int .i64 1]) ∧ w = w' := by
  by_cases h0 : b < 0
  · go_enter Try.func20, Try.ntmps20
    go_wp2
    go_ret2
    exact ⟨rfl, rfl⟩
  · have h1 : 4096 < b := by
      apply Classical.byContradiction
      intro h
      have : rightN b = true := by unfold rightN; simp; omega
      rw [this] at hb
      cases hb
    clear hb
    go_enter Try.func20, Try.ntmps20
    go_wp2
    go_ret2
    exact ⟨rfl, rfl⟩
/-- what the answer's Of answers -/
def RofPost (w w' : World) (n : Nat) (ls : List Lf) (e : Ending) : Prop :=
  (¬ RofOk n ls ∧ e = .returned (.tuple #[.slice none 0 0, .int .i64 7])) ∨ (RofOk n ls ∧ ∃ V, e = .returned (.tuple #[V, .int .i64 0]) ∧ w'.ownsRow w.heap.size 3 1 V ((yT ls (pages n)).take n).length (is ((yT ls (pages n)).take n)))
set_option maxRecDepth 100000 in
set_option maxHeartbeats 2000000 in
theorem rof_any (n : Nat) (A : Option Addr) (cap : Nat) (ls : List Lf) (w : World) (hn : n ≤ 4096) (hin : ∀ l ∈ ls, In l) (hl : ls.length ≤ 1000) (hr : Rd w w.heap.size A (lfls ls)) :
    Calls Try.prog 20 #[.int .i64 n, .slice A ls.length cap] w fun e w' => RofPost w w' n ls e ∧ Below w.heap.size w w' := by
  obtain ⟨mr, hmr, hszr⟩ := big_size (P := Try.prog) (t := 50) (s := 12) (by kernel_rfl)
  have hmr0 : ¬ mr = 0 := by omega
  have HM := Lib.hid hmr
  have HRd := Lib.hid hr
  have HIn := Lib.hid hin
  have HNo : Hid (¬ RofOk n ls → ∀ w', RofPost w w' n ls (.returned (.tuple #[.slice none 0 0, .int .i64 7]))) := Lib.hid fun h w' => .inl ⟨h, rfl⟩
  have HYes : Hid (RofOk n ls → ∀ w' V, w'.ownsRow w.heap.size 3 1 V ((yT ls (pages n)).take n).length (is ((yT ls (pages n)).take n)) → RofPost w w' n ls (.returned (.tuple #[V, .int .i64 0]))) := Lib.hid fun h w' V hv => .inr ⟨h, V, rfl, hv⟩
  have hp := pages_le hn
  have HP := Lib.hid (And.intro (pages_up n) (pages_low n))
  clear hmr hr hin
  go_enter Try.func20, Try.ntmps20
  go_wp2
  go_loopw [6] (fun i wr => ∃ k : Nat, k ≤ pages n ∧ i = .int .i64 k ∧ w = wr) (fun i _ => pages n - (intOf i).toNat)
  case atStart => exact ⟨0, by omega, rfl, rfl⟩
  case round =>
    obtain ⟨k, hk, rfl, rfl⟩ := hrel
    by_cases hlt : k < pages n
    · have h10 : 10 * k < n := by have := HP.out; omega
      go_wp2
      go_roundw
      case rel => exact ⟨k + 1, by omega, by go_num, by first | rfl | trivial⟩
      case measure => simp [intOf]; omega
    · obtain rfl : k = pages n := by omega
      have h10 : ¬ 10 * pages n < n := by have := HP.out; omega
      by_cases hlen : ls.length = pages n
      · have hlb : ((ls.length : Int) != (pages n : Int)) = false := by rw [hlen]; simp
        have HlenE := Lib.hid hlen
        generalize hL : ls.length = len at *
        have HL := Lib.hid hL
        clear hL hlen
        go_wp2
        go_loopw [7, 8] (fun o i wr => ∃ q : Nat, q ≤ pages n ∧ i = .int .i64 q ∧ (∀ q', q' < q → RofRow n ls q') ∧ wr.ownsRow w.heap.size 3 1 o (outT n ls q 0).length (is (outT n ls q 0)) ∧ Below w.heap.size w wr) (fun _ i _ => pages n - (intOf i).toNat)
        case atStart => exact ⟨0, Nat.zero_le _, rfl, fun q' h => absurd h (Nat.not_lt_zero _), by rw [outT_first]; exact World.ownsRow_nil _ _ _ _, Below.refl _ _⟩
        case round =>
          obtain ⟨q, hq, rfl, hrows, hown, hbl⟩ := hrel
          by_cases hqt : q < pages n
          · have HO := Lib.hid (And.intro hown hbl)
            have HRows := Lib.hid hrows
            clear hown hbl hrows
            obtain ⟨wo, hwo⟩ : ∃ x, x = wr := ⟨wr, rfl⟩
            subst hwo
            have hqi : (q : Int) < (pages n : Int) := by omega
            go_wp2
            go_loopw [9, 10] (fun f i wr => ∃ k : Nat, k ≤ len ∧ i = .int .i64 k ∧ f = .int .i64 (fndT ls q k) ∧ wo = wr) (fun _ i _ => len - (intOf i).toNat)
            case atStart => exact ⟨0, Nat.zero_le _, rfl, rfl, rfl⟩
            case round =>
              obtain ⟨k, hk2, rfl, rfl, rfl⟩ := hrel
              by_cases hkt : k < len
              · have hkl : k < ls.length := by rw [HL.out]; exact hkt
                obtain ⟨l, hl1⟩ : ∃ l, ls[k]? = some l := ⟨ls[k], by simp [hkl]⟩
                have hgd : ls.getD k lf0 = l := by rw [List.getD_eq_getElem?_getD, hl1]; rfl
                have hrd := HRd.out.below HO.out.2
                obtain ⟨ad, rfl, _⟩ := lf_some hrd HIn.out hl1
                have c1 : wo.cell? ⟨(ad.add (k * mr)).block, (ad.add (k * mr)).off + 1, none⟩ = some (.int .i64 l.index) := by rw [HM.out]; exact lf_field hrd HIn.out hl1 (Nat.le_refl 1) rfl
                have hki : (k : Int) < (len : Int) := by omega
                by_cases he : l.index = (q : Int)
                · have HF := Lib.hid (fnd_yes (ls := ls) (i := q) (m := k) (by rw [hgd]; exact he))
                  have heb : (l.index == (q : Int)) = true := by simpa using he
                  clear he hgd hl1 hrd hkl
                  generalize fndT ls q k = fk at *
                  go_wp2
                  go_roundw
                  case rel => exact ⟨k + 1, by omega, by go_num, by rw [HF.out], by first | rfl | trivial⟩
                  case measure => simp [intOf]; omega
                · have HF := Lib.hid (fnd_no (ls := ls) (i := q) (m := k) (by rw [hgd]; exact he))
                  have heb : (l.index == (q : Int)) = false := by simpa using he
                  clear he hgd hl1 hrd hkl
                  generalize hfk : fndT ls q k = fk at *
                  go_wp2
                  go_roundw
                  case rel => exact ⟨k + 1, by omega, by go_num, by rw [HF.out], by first | rfl | trivial⟩
                  case measure => simp [intOf]; omega
              · obtain rfl : len = k := by omega
                rcases fnd_range ls q len with hneg | ⟨f, hf, hfe, hfi⟩
                · have HQ := Lib.hid (HNo.out (fun h => (h.2 q hqt).1 (by rw [HL.out]; exact hneg)))
                  rw [hneg]
                  clear hneg
                  go_wp2
                  go_ret2
                  exact ⟨HQ.out _, HO.out.2⟩
                · rw [hfe]
                  have hfl : f < ls.length := by rw [HL.out]; exact hf
                  obtain ⟨l, hl1⟩ : ∃ l, ls[f]? = some l := ⟨ls[f], by simp [hfl]⟩
                  have HAt : Hid (lfAt ls q = l) := Lib.hid (by unfold lfAt; rw [HL.out, hfe, Int.toNat_natCast, List.getD_eq_getElem?_getD, hl1]; rfl)
                  have HNe : Hid (¬ fndT ls q ls.length = -1) := Lib.hid (by rw [HL.out, hfe]; omega)
                  have hrd0 := HRd.out.below HO.out.2
                  obtain ⟨ad, rfl, _⟩ := lf_some hrd0 HIn.out hl1
                  have HIl := Lib.hid (HIn.out l (List.mem_of_getElem? hl1))
                  have HCd : Hid (∀ W, Below w.heap.size w W → ∀ j, j < 10 → W.cell? ⟨(ad.add (f * mr)).block, (ad.add (f * mr)).off + 2 + j, none⟩ = some (.int .i64 (l.places.getD j 0))) := Lib.hid fun W hW j hj => by
                    rw [HM.out, Nat.add_assoc]
                    exact lf_field (HRd.out.below hW) HIn.out hl1 (by omega) ((lcs_place l j).trans (is_get (by have := HIl.out; unfold In at this; omega)))
                  have hfi2 : (f : Int) < (len : Int) := by omega
                  clear hfe hfi hfl hl1 hrd0 hf
                  go_wp2
                  go_loopw [7, 11] (fun o i wr => ∃ j : Nat, j ≤ 10 ∧ i = .int .i64 j ∧ (∀ j', j' < j → okP n q j' (l.places.getD j' 0)) ∧ wr.ownsRow w.heap.size 3 1 o (outT n ls q j).length (is (outT n ls q j)) ∧ Below w.heap.size w wr) (fun _ i _ => 10 - (intOf i).toNat)
                  case atStart => exact ⟨0, by omega, rfl, fun j' h => absurd h (Nat.not_lt_zero _), HO.out⟩
                  case round =>
                    obtain ⟨j, hj, rfl, hok, hown, hbl⟩ := hrel
                    have HO2 := Lib.hid (And.intro hown hbl)
                    clear hown hbl
                    by_cases hj10 : j < 10
                    · have hcell := HCd.out wr HO2.out.2 j hj10
                      have HPl : Hid ((lfAt ls q).places.getD j 0 = l.places.getD j 0) := Lib.hid (by rw [HAt.out])
                      have HStep : Hid (okP n q j (l.places.getD j 0) → ∀ j', j' < j + 1 → okP n q j' (l.places.getD j' 0)) := Lib.hid fun h j' hj' => by
                        by_cases e : j' = j
                        · subst e; exact h
                        · exact hok j' (by omega)
                      have HBadd : Hid (¬ okP n q j (l.places.getD j 0) → ¬ RofOk n ls) := Lib.hid fun h hr => h (by
                        have := (hr.2 q hqt).2 j hj10
                        rwa [HAt.out] at this)
                      clear hok
                      have hji : (j : Int) < 10 := by omega
                      generalize l.places.getD j 0 = x at *
                      rcases (show x < 0 ∨ (x = 0 ∧ q * 10 + j < n) ∨ (x = 0 ∧ ¬ q * 10 + j < n) ∨ (0 < x ∧ q * 10 + j < n) ∨ (0 < x ∧ ¬ q * 10 + j < n) by omega) with x0 | ⟨x0, h1⟩ | ⟨x0, h1⟩ | ⟨x0, h1⟩ | ⟨x0, h1⟩
                      · have HBad := Lib.hid (HBadd.out (by unfold okP; omega))
                        have HQ := Lib.hid (HNo.out HBad.out)
                        go_wp2
                        go_ret2
                        exact ⟨HQ.out _, HO2.out.2⟩
                      · subst x0
                        have HS := Lib.hid (And.intro (HStep.out (by unfold okP; omega)) (outT_yes (ls := ls) (i := q) (j := j) HIn.out hj10 h1))
                        have hown := HO2.out.1
                        have hsz' := HO2.out.2.size
                        have hle := outT_len (n := n) (ls := ls) (i := q) (j := j)
                        go_wp2_with (at_builtin; go_loud (refine wpList_append_one _ rfl _ _ _ rfl w.heap.size 3 _ 8 elemI u7 (outT n ls q j).length _ rfl _ rfl hown rfl (by simp only [maxLen]; omega) (by omega) hsz' ?_); intro v1 w4 hown1 hg1; have HO3 := Lib.hid (And.intro hown1 (HO2.out.2.grown hg1 hsz' fun g hg => (hown.lt g hg).1)); clear hown1 hg1 hown)
                        go_roundw
                        case rel => exact ⟨j + 1, by omega, by go_num, HS.out.1, by rw [HS.out.2, List.length_append, is_append, is_one1, HPl.out]; exact HO3.out.1, HO3.out.2⟩
                        case measure => first | (simp [intOf]; done) | (simp [intOf]; omega)
                      · subst x0
                        have HS := Lib.hid (And.intro (HStep.out (by unfold okP; omega)) (outT_no (ls := ls) (i := q) (j := j) HIn.out hj10 h1))
                        go_wp2
                        go_roundw
                        case rel => exact ⟨j + 1, by omega, by go_num, HS.out.1, by rw [HS.out.2]; exact HO2.out.1, HO2.out.2⟩
                        case measure => first | (simp [intOf]; done) | (simp [intOf]; omega)
                      · have HS := Lib.hid (And.intro (HStep.out (by unfold okP; omega)) (outT_yes (ls := ls) (i := q) (j := j) HIn.out hj10 h1))
                        have hown := HO2.out.1
                        have hsz' := HO2.out.2.size
                        have hle := outT_len (n := n) (ls := ls) (i := q) (j := j)
                        go_wp2_with (at_builtin; go_loud (refine wpList_append_one _ rfl _ _ _ rfl w.heap.size 3 _ 8 elemI u7 (outT n ls q j).length _ rfl _ rfl hown rfl (by simp only [maxLen]; omega) (by omega) hsz' ?_); intro v1 w4 hown1 hg1; have HO3 := Lib.hid (And.intro hown1 (HO2.out.2.grown hg1 hsz' fun g hg => (hown.lt g hg).1)); clear hown1 hg1 hown)
                        go_roundw
                        case rel => exact ⟨j + 1, by omega, by go_num, HS.out.1, by rw [HS.out.2, List.length_append, is_append, is_one1, HPl.out]; exact HO3.out.1, HO3.out.2⟩
                        case measure => first | (simp [intOf]; done) | (simp [intOf]; omega)
                      · have HBad := Lib.hid (HBadd.out (fun h => h1 (h.2 x0)))
                        have HQ := Lib.hid (HNo.out HBad.out)
                        go_wp2
                        go_ret2
                        exact ⟨HQ.out _, HO2.out.2⟩
                    · obtain rfl : j = 10 := by omega
                      have HRow : Hid (∀ q', q' < q + 1 → RofRow n ls q') := Lib.hid fun q' h => by
                        by_cases e : q' = q
                        · subst e
                          exact ⟨HNe.out, by rw [HAt.out]; exact hok⟩
                        · exact HRows.out q' (by omega)
                      have HNx := Lib.hid (outT_next (n := n) (i := q) HIn.out)
                      clear hok
                      go_wp2
                      go_roundw
                      case rel => exact ⟨q + 1, by omega, by go_num, HRow.out, by rw [← HNx.out]; exact HO2.out.1, HO2.out.2⟩
                      case measure => first | (simp [intOf]; done) | (simp [intOf]; omega)
          · obtain rfl : q = pages n := by omega
            have HOk : Hid (RofOk n ls) := Lib.hid ⟨HL.out.trans HlenE.out, hrows⟩
            rw [outT_last] at hown
            have HO := Lib.hid (And.intro hown hbl)
            clear hrows hown hbl
            go_wp2
            go_ret2
            exact ⟨HYes.out HOk.out _ _ HO.out.1, HO.out.2⟩
      · have hlb : ((ls.length : Int) != (pages n : Int)) = true := by rw [bne_iff_ne]; omega
        have HQ := Lib.hid (HNo.out (fun h => hlen h.1))
        clear hlen
        go_wp2
        go_ret2
        exact ⟨HQ.out _, Below.refl _ _⟩
end Go.Proofs.Ytcligeajgbibnaa

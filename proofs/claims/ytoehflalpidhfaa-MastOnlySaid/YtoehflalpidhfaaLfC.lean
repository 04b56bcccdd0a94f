/-
  What each function of package page does: narrow, Right, placeAt, get.
-/
import Derived.Test.YtoehflalpidhfaaLfB
import Derived.Test.YtoehflalpidhfaaWordC
import Derived.Test.YtoehflalpidhfaaClass
namespace Go.Proofs.Ytoehflalpidhfaa
open Go.RowKit Word Leaf
set_option linter.unusedVariables false

theorem cut32_yes {n : Int} (h : place n) : n % 4294967296 = n := Int.emod_eq_of_lt (by omega) (by omega)
theorem cut32_no {n : Int} (h : ¬ place n) : ¬ n % 4294967296 = n := fun e => h (by have := Int.emod_nonneg n (show (4294967296 : Int) ≠ 0 by decide); have := Int.emod_lt_of_pos n (show (0 : Int) < 4294967296 by decide); omega)
theorem narrow_upto {ps : List Int} (h : ∀ j, j < ps.length → place (ps.getD j 0)) : Narrow ps := by
  intro n hn
  obtain ⟨i, hi, rfl⟩ := List.getElem_of_mem hn
  have := h i hi
  rwa [List.getD_eq_getElem?_getD, List.getElem?_eq_getElem hi] at this
set_option maxRecDepth 100000 in
theorem narrow_any (ps : List Int) (w : World) (hl : ps.length = 10) :
    Calls Try.prog 41 #[.agg (is ps).toArray] w fun e w' => e = .returned (.bool (narrowB ps)) ∧ Below w.heap.size w w' := by
  obtain ⟨m, hm, hsz⟩ := big_size (P := Try.prog) (t := 47) (s := 10) (by kernel_rfl)
  have hm0 : ¬ m = 0 := by omega
  have HM := Lib.hid hm
  have HL := Lib.hid hl
  have HI := Lib.hid fun w' (k : Nat) (hk : k < 10) => run_index_is w' 47 3 10 ps k Try.underlying47 Try.underlying3 size_int hl hk
  have HN := Lib.hid (show narrowB ps = decide (Narrow ps) from rfl)
  clear hm hl
  go_enter Try.func41, Try.ntmps41
  go_wp2_with (first
    | ((with_reducible refine wpList_ten_box (o := ⟨some 1, .box _ _, _, _, _, _⟩) rfl _ rfl ps rfl ?_); intro w1 x0 hB1 hs1; have hld := big_load0 Try.prog w.heap.size 0 (is ps) m (by rw [is_length, HL.out, HM.out]) _ x0.range0)
    | fail)
  have HB := Lib.hid hB1
  clear x0 hB1 hs1 hld
  generalize hP : is ps = P at *
  have HP := Lib.hid hP
  clear hP
  go_loop [6] (fun i => ∃ k : Nat, k ≤ 10 ∧ i = .int .i64 k ∧ ∀ j, j < k → place (ps.getD j 0)) (fun i => 10 - (intOf i).toNat)
  case atStart => exact ⟨0, by omega, rfl, fun j hj => by omega⟩
  case round =>
    obtain ⟨k, hk, rfl, hall⟩ := hrel
    by_cases hlt : k < 10
    · have hix := fun w' => HI.out w' k hlt
      have HA := Lib.hid hall
      clear hall
      by_cases hpl : place (ps.getD k 0)
      · have hc := cut32_yes hpl
        have HPl := Lib.hid hpl
        have h0 := hpl.1
        have h1 := hpl.2
        clear hpl
        generalize hx : ps.getD k 0 = x at hix hc HPl h0 h1
        have HX := Lib.hid hx
        clear hx
        go_wp2
        go_round
        case rel =>
          refine ⟨k + 1, by omega, by go_num, fun j hj => ?_⟩
          by_cases hjk : j = k
          · subst hjk; rw [HX.out]; exact HPl.out
          · exact HA.out j (by omega)
        case measure => simp [intOf]; omega
      · have hc := cut32_no hpl
        have HF := Lib.hid (show narrowB ps = false by
          rw [HN.out]
          exact decide_eq_false fun h => hpl (h _ (getD_mem (by rw [HL.out]; exact hlt))))
        clear hpl
        generalize ps.getD k 0 = x at hix hc
        go_wp2
        go_ret
        exact ⟨ret_bool HF.out, HB.out⟩
    · obtain rfl : k = 10 := by omega
      have HT := Lib.hid (show narrowB ps = true by
        rw [HN.out]
        exact decide_eq_true (narrow_upto fun j hj => hall j (by rw [← HL.out]; exact hj)))
      go_wp2
      go_ret
      exact ⟨ret_bool HT.out, HB.out⟩

theorem placeAt_any (i : Nat) (w : World) (hi : i ≤ 10) : Calls Try.prog 48 #[.int .i64 i] w fun e w' => e = .returned (.int .i64 ((13 + 4 * i : Nat) : Int)) ∧ w = w' := by
  go_enter Try.func48, Try.ntmps48
  go_wp2
  go_ret
  exact ⟨ret_int (by omega), rfl⟩

theorem lfget_any (at_ n : Nat) (zs : List Int) (w : World) (h8 : n ≤ 8) (hn : 1 ≤ n) (hf : at_ + n ≤ 64) (hl : zs.length = 64) (hb : octets zs) :
    Calls Try.prog 56 #[.agg (bs zs).toArray, .int .i64 at_, .int .i64 n] w fun e w' => e = .returned (.int .i64 (Rec.i64 (get zs at_ n))) ∧ Below w.heap.size w w' := by
  have hbx := Box.new w 28 (bs zs)
  have hB := (Below.refl w.heap.size w).alloc (Nat.le_refl _) (.cells (bs zs).toArray 28 (0, 0))
  have HG := Lib.hid (get_yes (some ⟨w.heap.size, 0, none⟩) 64 64 at_ n (w.alloc (.cells (bs zs).toArray 28)) (by decide) h8 hn hf zs hb hl _ (Rd.own (hbx.own (by rw [bs_length, hl]) (by decide) 0 (Nat.zero_le _))))
  have hg := get_bounds zs at_ n hb
  have HI := Lib.hid (show IntKind.i64.wrap (get zs at_ n) = Rec.i64 (get zs at_ n) from rfl)
  generalize get zs at_ n = v at *
  generalize Rec.i64 v = iv at *
  clear hbx
  go_enter Try.func56, Try.ntmps56
  go_wp2_with fail
  refine HG.out.mono ?_
  rintro e w' ⟨rfl, rfl⟩
  have H := Lib.hid hB
  clear hB HG
  go_wp2
  go_ret
  exact ⟨ret_int (by rw [← HI.out]; exact IntWalk.i64_left v), H.out⟩

set_option maxRecDepth 100000 in
set_option maxHeartbeats 1000000 in
theorem lfright_any (l : Lf) (w : World) (hi : In l) :
    Calls Try.prog 21 #[.agg (lcs l).toArray] w fun e w' => e = .returned (.bool (okB l)) ∧ Below w.heap.size w w' := by
  obtain ⟨m, hm, hsz⟩ := big_size (P := Try.prog) (t := 47) (s := 10) (by kernel_rfl)
  have hm0 : ¬ m = 0 := by omega
  have hbx := Box.new w 49 (lcs l)
  have hB := (Below.refl w.heap.size w).alloc (Nat.le_refl _) (.cells (lcs l).toArray 49 (0, 0))
  obtain ⟨c0, c1⟩ := hbx.lf
  have hld := big_load0 Try.prog w.heap.size 2 (is l.places) m (by unfold In at hi; rw [is_length, hi, hm]) _ hbx.lfPlaces
  have HB := Lib.hid hB
  have HN := Lib.hid fun w' => narrow_any l.places w' hi
  have HF := Lib.hid (okB_eq l)
  unfold Rec.numB idxB at HF
  generalize hW : w.alloc (.cells (lcs l).toArray 49) = W at *
  have HW := Lib.hid hW
  generalize okB l = ob at HF ⊢
  generalize narrowB l.places = nb at *
  generalize is l.places = R at *
  clear hm hB hbx
  obtain ⟨gen, index, places⟩ := l
  simp only at *
  rcases (show (¬ 1 ≤ gen) ∨ (1 ≤ gen ∧ ¬ gen ≤ 1099511627776) ∨ (1 ≤ gen ∧ gen ≤ 1099511627776) by omega) with g0 | ⟨g0, g1⟩ | ⟨g0, g1⟩ <;>
  rcases (show (¬ 0 ≤ index) ∨ (0 ≤ index ∧ ¬ index ≤ 4096) ∨ (0 ≤ index ∧ index ≤ 4096) by omega) with q0 | ⟨q0, q1⟩ | ⟨q0, q1⟩ <;>
  · go_enter Try.func21, Try.ntmps21
    go_wp2_with (go_at_call 41; refine (HN.out _).mono ?_; rintro e w' ⟨rfl, hb⟩)
    all_goals go_ret
    all_goals exact ⟨ret_bool (by rw [HF.out]; clear HW hW hld hsz c0 c1; first | (simp [*]; done) | (cases nb <;> first | (simp [*]; done) | (simp [*]; omega))), by first | exact bthen HB.out hb | exact HB.out⟩
end Go.Proofs.Ytoehflalpidhfaa

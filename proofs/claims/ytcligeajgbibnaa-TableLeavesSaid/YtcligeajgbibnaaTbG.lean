/-
  Package table: fits.
-/
import Derived.Test.YtcligeajgbibnaaTbF
namespace Go.Proofs.Ytcligeajgbibnaa
open Go.RowKit Leaf Tbl
set_option linter.unusedVariables false

namespace Tbl
/-- may this place stand at number j of leaf q? -/
abbrev okP (n q j : Nat) (p : Int) : Prop := 0 ≤ p ∧ (0 < p → q * 10 + j < n)
def Fits (n : Nat) (l : Lf) : Prop := 0 ≤ l.index ∧ l.index < (pages n : Int) ∧ ∀ j, j < 10 → okP n l.index.toNat j (l.places.getD j 0)
theorem fits_dec (n : Nat) (l : Lf) : Fits n l ↔ (0 ≤ l.index ∧ l.index < (pages n : Int) ∧ ((List.range 10).all fun j => decide (okP n l.index.toNat j (l.places.getD j 0))) = true) := by
  unfold Fits
  simp only [List.all_eq_true, List.mem_range, decide_eq_true_eq]
instance (n : Nat) (l : Lf) : Decidable (Fits n l) := decidable_of_iff _ (fits_dec n l).symm
def fitsB (n : Nat) (l : Lf) : Bool := decide (Fits n l)
end Tbl
set_option maxRecDepth 100000 in
theorem tfits_any {d g h n : Nat} {ys : List Int} {ds : List Bool} (w : World) (l : Lf) (hi : In l) (t : TbIs w d g h n ys ds) :
    Calls Try.prog 26 #[tp d, .agg (lcs l).toArray] w fun e w' => e = .returned (.bool (fitsB n l)) ∧ Below w.heap.size w w' := by
  obtain ⟨m, hm, hsz⟩ := big_size (P := Try.prog) (t := 48) (s := 10) (by kernel_rfl)
  obtain ⟨mr, hmr, hszr⟩ := big_size (P := Try.prog) (t := 50) (s := 12) (by kernel_rfl)
  have hm0 : ¬ m = 0 := by omega
  have hmr0 : ¬ mr = 0 := by omega
  have HM := Lib.hid (And.intro hm hmr)
  have hbx := Box.new w 50 (lcs l)
  have hB := (Below.refl w.heap.size w).alloc (Nat.le_refl _) (.cells (lcs l).toArray 50 (0, 0))
  obtain ⟨x0, x1⟩ := hbx.lf
  have hld := big_load0 Try.prog w.heap.size 2 (is l.places) m (by unfold In at hi; rw [is_length, hi, hm]) _ hbx.lfPlaces
  have HI := Lib.hid fun w' (k : Nat) (hk : k < 10) => run_index_is w' 48 3 10 l.places k Try.underlying48 Try.underlying3 size_int hi hk
  have HF := Lib.hid (show ∀ b : Bool, (b = true ↔ Fits n l) → fitsB n l = b by
    intro b hb
    unfold fitsB
    by_cases h : Fits n l
    · rw [decide_eq_true h, hb.2 h]
    · rw [decide_eq_false h]
      cases b
      · rfl
      · exact absurd (hb.1 rfl) h)
  have HB := Lib.hid hB
  have HBx := Lib.hid hbx
  have T1 := Lib.hid (t.on hB)
  have hp := pages_le t.hn
  have hW : Hid (w.alloc (.cells (lcs l).toArray 50) = w.alloc (.cells (lcs l).toArray 50)) := Lib.hid rfl
  have HIl : Hid (In l) := Lib.hid hi
  clear hm hmr hB hbx t hi
  obtain ⟨c1, c2⟩ := T1.out.rows
  generalize hx : w.alloc (.cells (lcs l).toArray 50) = W at *
  have HW := Lib.hid hx
  clear hW
  unfold Fits at HF
  obtain ⟨gen, index, places⟩ := l
  simp only at *
  generalize hR : is places = R at *
  have HR := Lib.hid hR
  clear hR
  rcases (show index < 0 ∨ (0 ≤ index ∧ ¬ index < (pages n : Int)) ∨ (0 ≤ index ∧ index < (pages n : Int)) by omega) with i0 | ⟨i0, i1⟩ | ⟨i0, i1⟩
  · have hd : decide (index < 0) = true := decide_eq_true i0
    have HQ := Lib.hid (HF.out false (by constructor <;> intro h; cases h; omega))
    go_enter Try.func26, Try.ntmps26
    go_wp2
    go_quiet (fail)
    go_wp2
    go_ret
    exact ⟨ret_bool HQ.out, below_draws HB.out _⟩
  · have hd : decide (index < 0) = false := decide_eq_false (by omega)
    have HQ := Lib.hid (HF.out false (by constructor <;> intro h; cases h; omega))
    go_enter Try.func26, Try.ntmps26
    go_wp2
    go_quiet (fail)
    go_wp2
    go_ret
    exact ⟨ret_bool HQ.out, below_draws HB.out _⟩
  · have hd : decide (index < 0) = false := decide_eq_false (by omega)
    have HWq : Hid (∀ q, (loadCellsFrom ⟨w.heap.size, 2, none⟩ 0 m #[]).run Try.prog (W.drewN q) = .ok R.toArray (W.drewN q) ∧ TbIs (W.drewN q) d g h n ys ds ∧ (W.drewN q).cell? ⟨w.heap.size, 1, none⟩ = some (.int .i64 index) ∧ Below w.heap.size w (W.drewN q)) := Lib.hid fun q =>
      ⟨by rw [← HR.out]; exact big_load0 Try.prog w.heap.size 2 (is places) m (by have := HIl.out; unfold In at this; rw [is_length, this, HM.out.1]) _ HBx.out.lfPlaces, ⟨T1.out.tb, T1.out.lv, T1.out.dt, T1.out.hn, T1.out.hy, T1.out.hd⟩, x1, below_draws HB.out q⟩
    obtain ⟨qi, rfl⟩ : ∃ qi : Nat, index = qi := ⟨index.toNat, by omega⟩
    rw [Int.toNat_natCast] at HF
    have hpq : ¬ pages n ≤ qi := by omega
    have hpd : decide (pages n ≤ qi) = false := decide_eq_false hpq
    clear hld
    go_enter Try.func26, Try.ntmps26
    go_wp2
    go_quiet (fail)
    obtain ⟨hld, T2, x1, HB2⟩ := HWq.out nq
    generalize W.drewN nq = W2 at *
    have HT2 := Lib.hid T2
    have HBB := Lib.hid HB2
    clear HWq T2 HB2 c1 c2 x0 HBx T1 HB
    go_wp2
    go_loopw [22] (fun i wr => ∃ k : Nat, k ≤ 10 ∧ i = .int .i64 k ∧ (∀ j, j < k → okP n qi j (places.getD j 0)) ∧ W2 = wr) (fun i _ => 10 - (intOf i).toNat)
    case atStart => exact ⟨0, by omega, rfl, fun j hj => by omega, rfl⟩
    case round =>
      obtain ⟨k, hk, rfl, hall, rfl⟩ := hrel
      by_cases hlt : k < 10
      · have hix := fun w' => HI.out w' k hlt
        have HA := Lib.hid hall
        have HS : Hid (okP n qi k (places.getD k 0) → ∀ j, j < k + 1 → okP n qi j (places.getD j 0)) := Lib.hid fun h j hj => by
          by_cases e : j = k
          · subst e; exact h
          · exact hall j (by omega)
        have HNo : Hid (¬ okP n qi k (places.getD k 0) → fitsB n ⟨gen, (qi : Int), places⟩ = false) := Lib.hid fun h => HF.out false (by
          constructor
          · intro e; cases e
          · intro e; exact absurd (e.2.2 k hlt) h)
        have HN := Lib.hid (has_any W2 ((qi : Int) * 10 + (k : Int)) HT2.out)
        clear hall
        generalize places.getD k 0 = p at *
        rcases (show p < 0 ∨ p = 0 ∨ 0 < p by omega) with p0 | p0 | p0
        · have HQ := Lib.hid (HNo.out (by unfold okP; omega))
          go_wp2
          go_ret
          exact ⟨ret_bool HQ.out, HBB.out⟩
        · subst p0
          have HQ := Lib.hid (HS.out (by unfold okP; omega))
          go_wp2
          go_roundw
          case rel => exact ⟨k + 1, by omega, by go_num, HQ.out, by first | rfl | trivial⟩
          case measure => simp [intOf]; omega
        · cases hb : hasB n ((qi : Int) * 10 + (k : Int))
          · rw [hb] at HN
            have HQ := Lib.hid (HNo.out (by
              intro h
              have := hasB_nat (h.2 p0)
              rw [show ((qi * 10 + k : Nat) : Int) = (qi : Int) * 10 + k by omega, hb] at this
              cases this))
            clear hb
            go_wp2_with fail
            refine HN.out.mono ?_
            rintro e w' ⟨rfl, rfl⟩
            go_wp2
            go_ret
            exact ⟨ret_bool HQ.out, HBB.out⟩
          · rw [hb] at HN
            have HQ := Lib.hid (HS.out (by
              obtain ⟨x, hx, hx2⟩ := hasB_iff.1 hb
              unfold okP
              omega))
            clear hb
            go_wp2_with fail
            refine HN.out.mono ?_
            rintro e w' ⟨rfl, rfl⟩
            go_wp2
            go_roundw
            case rel => exact ⟨k + 1, by omega, by go_num, HQ.out, by first | rfl | trivial⟩
            case measure => simp [intOf]; omega
      · obtain rfl : k = 10 := by omega
        have HQ := Lib.hid (HF.out true ⟨fun _ => ⟨i0, i1, hall⟩, fun _ => rfl⟩)
        clear hall
        go_wp2
        go_ret
        exact ⟨ret_bool HQ.out, HBB.out⟩
end Go.Proofs.Ytcligeajgbibnaa

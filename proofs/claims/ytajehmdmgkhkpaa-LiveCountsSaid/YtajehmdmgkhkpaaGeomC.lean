/-
  What each function of package geom does: one contract a function.
-/
import Derived.Test.YtajehmdmgkhkpaaProg
import Derived.Test.YtajehmdmgkhkpaaMem
import Derived.Test.YtajehmdmgkhkpaaGeomM
import Derived.WalkSpells
import Derived.WalkLawsBesides
import Derived.OpenShut
import Derived.Deep.QuietTactic
import Derived.BigQuiet
import Derived.IntWalk
namespace Go.Proofs.Ytajehmdmgkhkpaa
open Go.RowKit Geom
set_option linter.unusedVariables false

/-- a measure as a value -/
@[reducible] def geo (conv soft seq size opn : Int) : Value := .agg #[.int .i64 conv, .int .i64 soft, .int .i64 seq, .int .i64 size, .int .i64 opn]

theorem half_any (n : Int) (w : World) (h0 : 0 ≤ n) (h1 : n ≤ 65536) :
    Calls Try.prog 39 #[.int .i64 n] w fun e w' => e = .returned (.int .i64 (n / 2)) ∧ w = w' := by
  go_enter Try.func39, Try.ntmps39
  go_wp2
  go_ret
  exact ⟨rfl, rfl⟩

theorem blocks_any (conv soft seq size opn : Int) (w : World) (h : Some conv seq size) :
    Calls Try.prog 38 #[.agg #[.int .i64 conv, .int .i64 soft, .int .i64 seq, .int .i64 size, .int .i64 opn]] w fun e w' => e = .returned (.int .i64 (blocks seq size)) ∧ Below w.heap.size w w' := by
  have hp := prod_bd h
  obtain ⟨h1, h2, h3, h4, h5⟩ := h
  have HB := Lib.hid (show blocks seq size = min ((seq - 5) * (size / 2)) 4096 from rfl)
  go_enter Try.func38, Try.ntmps38
  go_wp2
  have hq1 := IntWalk.i64_in (seq - 5) (by omega)
  have hq2 := IntWalk.i64_in ((seq - 5) * (size / 2)) (by omega)
  go_region_with ((with_reducible refine (half_any _ _ (by omega) (by omega)).mono ?_); rintro e w' ⟨rfl, rfl⟩)
  all_goals
    go_wp2
    all_goals
      go_ret
      exact ⟨ret_int (by rw [HB.out]; omega), ((Below.refl _ _).alloc (Nat.le_refl _) _).drew⟩

theorem pages_any (conv soft seq size opn : Int) (w : World) (h : Some conv seq size) :
    Calls Try.prog 37 #[.agg #[.int .i64 conv, .int .i64 soft, .int .i64 seq, .int .i64 size, .int .i64 opn]] w fun e w' => e = .returned (.int .i64 (pages seq size)) ∧ Below w.heap.size w w' := by
  have hb := blocks_bd h
  have HP := Lib.hid (show pages seq size = (blocks seq size + 9) / 10 from rfl)
  have H := Lib.hid fun w => blocks_any conv soft seq size opn w h
  generalize blocks seq size = b at *
  generalize pages seq size = p at *
  obtain ⟨hb0, hb1⟩ := hb
  clear h
  go_enter Try.func37, Try.ntmps37
  go_wp2_with fail
  refine (H.out _).mono ?_
  rintro e w' ⟨rfl, hb⟩
  go_wp2
  go_ret
  exact ⟨ret_int (by rw [HP.out]; omega), bthen ((Below.refl _ _).alloc (Nat.le_refl _) _) hb⟩

theorem zones_any (conv soft seq size opn : Int) (w : World) (h : Some conv seq size) :
    Calls Try.prog 35 #[.agg #[.int .i64 conv, .int .i64 soft, .int .i64 seq, .int .i64 size, .int .i64 opn]] w fun e w' => e = .returned (.int .i64 (conv + seq)) ∧ Below w.heap.size w w' := by
  obtain ⟨h1, h2, h3, h4, h5⟩ := h
  go_enter Try.func35, Try.ntmps35
  go_wp2
  go_ret
  exact ⟨rfl, (Below.refl _ _).alloc (Nat.le_refl _) _⟩

theorem rightZones_any (conv soft seq size opn : Int) (w : World) (k : seq < 9223372036854775808) :
    Calls Try.prog 30 #[.agg #[.int .i64 conv, .int .i64 soft, .int .i64 seq, .int .i64 size, .int .i64 opn]] w fun e w' => e = .returned (.bool (zonesB conv seq)) ∧ Below w.heap.size w w' := by
  by_cases h1 : 2 ≤ conv
  · by_cases h2 : 6 ≤ seq
    · by_cases h3 : conv ≤ 64 - seq
      · have HD := Lib.hid (zones_yes (conv := conv) (seq := seq) (by omega))
        go_enter Try.func30, Try.ntmps30
        go_wp2
        go_ret
        exact ⟨ret_bool HD.out, (Below.refl _ _).alloc (Nat.le_refl _) _⟩
      · have HD := Lib.hid (zones_no (conv := conv) (seq := seq) (by omega))
        go_enter Try.func30, Try.ntmps30
        go_wp2
        go_ret
        exact ⟨ret_bool HD.out, (Below.refl _ _).alloc (Nat.le_refl _) _⟩
    · have HD := Lib.hid (zones_no (conv := conv) (seq := seq) (by omega))
      go_enter Try.func30, Try.ntmps30
      go_wp2
      go_ret
      exact ⟨ret_bool HD.out, (Below.refl _ _).alloc (Nat.le_refl _) _⟩
  · have HD := Lib.hid (zones_no (conv := conv) (seq := seq) (by omega))
    go_enter Try.func30, Try.ntmps30
    go_wp2
    go_ret
    exact ⟨ret_bool HD.out, (Below.refl _ _).alloc (Nat.le_refl _) _⟩

theorem rightSize_any (conv soft seq size opn : Int) (w : World) :
    Calls Try.prog 31 #[.agg #[.int .i64 conv, .int .i64 soft, .int .i64 seq, .int .i64 size, .int .i64 opn]] w fun e w' => e = .returned (.bool (sizeB size)) ∧ Below w.heap.size w w' := by
  by_cases h1 : 8 ≤ size
  · by_cases h2 : size ≤ 256
    · have HD := Lib.hid (size_yes (size := size) (by omega))
      go_enter Try.func31, Try.ntmps31
      go_wp2
      go_ret
      exact ⟨ret_bool HD.out, (Below.refl _ _).alloc (Nat.le_refl _) _⟩
    · have HD := Lib.hid (size_no (size := size) (by omega))
      go_enter Try.func31, Try.ntmps31
      go_wp2
      go_ret
      exact ⟨ret_bool HD.out, (Below.refl _ _).alloc (Nat.le_refl _) _⟩
  · have HD := Lib.hid (size_no (size := size) (by omega))
    go_enter Try.func31, Try.ntmps31
    go_wp2
    go_ret
    exact ⟨ret_bool HD.out, (Below.refl _ _).alloc (Nat.le_refl _) _⟩

set_option maxHeartbeats 1000000 in
theorem rightSoft_any (conv soft seq size opn : Int) (w : World) (h : Some conv seq size) :
    Calls Try.prog 32 #[.agg #[.int .i64 conv, .int .i64 soft, .int .i64 seq, .int .i64 size, .int .i64 opn]] w fun e w' => e = .returned (.bool (softB soft seq size)) ∧ Below w.heap.size w w' := by
  have hp := pages_bd h
  have HY := Lib.hid (show pages seq size + 3 ≤ soft → softB soft seq size = decide (soft ≤ 65536) from fun h => by unfold softB; rw [Bool.eq_iff_iff]; simp [h])
  have HN := Lib.hid fun h => soft_no (soft := soft) (seq := seq) (size := size) h
  have H := Lib.hid fun w => pages_any conv soft seq size opn w h
  generalize pages seq size = p at *
  obtain ⟨hp0, hp1⟩ := hp
  clear h
  have hq := IntWalk.i64_in (p + 3) (by omega)
  by_cases h1 : p + 3 ≤ soft
  · have HD := Lib.hid (HY.out h1)
    go_enter Try.func32, Try.ntmps32
    go_wp2
    go_region_with ((with_reducible refine (H.out _).mono ?_); rintro e w1 ⟨rfl, hb⟩; obtain ⟨hcl, hfz⟩ := bcell hb)
    all_goals
      go_wp2
      go_ret
      exact ⟨ret_bool HD.out, bthen ((Below.refl _ _).alloc (Nat.le_refl _) _).drew hb⟩
  · have hd : decide (p + 3 ≤ soft) = false := by simpa using h1
    have HD := Lib.hid (HN.out (fun h => h1 h.1))
    go_enter Try.func32, Try.ntmps32
    go_wp2
    first | go_region_with ((with_reducible refine (H.out _).mono ?_); rintro e w1 ⟨rfl, hb⟩; obtain ⟨hcl, hfz⟩ := bcell hb) | fail
    all_goals
      go_wp2
      go_ret
      exact ⟨ret_bool HD.out, bthen ((Below.refl _ _).alloc (Nat.le_refl _) _).drew hb⟩
end Go.Proofs.Ytajehmdmgkhkpaa

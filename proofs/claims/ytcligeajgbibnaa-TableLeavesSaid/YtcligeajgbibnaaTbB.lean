/-
  Package table: a table in memory (three blocks known whole); right, has, New, Get.
-/
import Derived.Test.YtcligeajgbibnaaLf0
import Derived.Test.YtcligeajgbibnaaClass
import Derived.Test.YtcligeajgbibnaaTail
import Derived.Test.YtcligeajgbibnaaMix
import Derived.Deep.OwnRows
import Derived.WalkSpells
import Derived.WalkLawsBesides
import Derived.Deep.QuietTactic
import Derived.BigQuiet
import Derived.BigRegion
import Derived.IntWalk
namespace Go.Proofs.Ytcligeajgbibnaa
open Go.RowKit Leaf
set_option linter.unusedVariables false

namespace Tbl
/-- how many leaves so many blocks take -/
def pages (n : Nat) : Nat := (n + 9) / 10
theorem pages_up (n : Nat) : n ≤ 10 * pages n := by unfold pages; omega
theorem pages_low (n : Nat) : 10 * pages n ≤ n + 9 := by unfold pages; omega
def hasB (n : Nat) (b : Int) : Bool := decide (0 ≤ b) && decide (b < n)
theorem hasB_yes {n : Nat} {b : Int} (h0 : 0 ≤ b) (h1 : b < n) : hasB n b = true := by simp [hasB, h0, h1]
theorem hasB_low {n : Nat} {b : Int} (h : ¬ 0 ≤ b) : hasB n b = false := by simp [hasB, h]
theorem hasB_high {n : Nat} {b : Int} (h : ¬ b < n) : hasB n b = false := by simp [hasB, h]
theorem hasB_nat {n k : Nat} (h : k < n) : hasB n k = true := hasB_yes (by omega) (by omega)
theorem hasB_iff {n : Nat} {b : Int} : hasB n b = true ↔ ∃ k : Nat, b = k ∧ k < n := by
  unfold hasB
  simp only [Bool.and_eq_true, decide_eq_true_eq]
  constructor
  · rintro ⟨h0, h1⟩
    exact ⟨b.toNat, by omega, by omega⟩
  · rintro ⟨k, rfl, h⟩
    omega
def getT (n : Nat) (ys : List Int) (b : Int) : Int := if hasB n b = true then ys.getD b.toNat 0 else 0
theorem getT_nat {n k : Nat} {ys : List Int} (h : k < n) : getT n ys k = ys.getD k 0 := by unfold getT; rw [if_pos (hasB_nat h)]; rfl
theorem getT_no {n : Nat} {ys : List Int} {b : Int} (h : hasB n b = false) : getT n ys b = 0 := by unfold getT; rw [h]; rfl
end Tbl
open Tbl
abbrev bls (ds : List Bool) : List Value := ds.map Value.bool
theorem bls_one (ds : List Bool) : ∀ u ∈ bls ds, u.oneCell' = true := by
  intro u hu
  obtain ⟨b, _, rfl⟩ := List.mem_map.1 hu
  rfl
theorem bls_get {ds : List Bool} {k : Nat} (h : k < ds.length) : (bls ds)[k]? = some (.bool (ds.getD k false)) := by simp [h]
abbrev rowAt (g p : Nat) : Value := .slice (some ⟨g, 0, none⟩) p p
abbrev tcs (n g h : Nat) : List Value := [.int .i64 n, rowAt g (pages n), rowAt h (pages n)]
abbrev tp (d : Nat) : Value := .pointer (some ⟨d, 0, none⟩)
/-- block d is a table of n blocks: its leaves' places ys lie in block g, what is dirty in block h -/
structure TbIs (w : World) (d g h n : Nat) (ys : List Int) (ds : List Bool) : Prop where
  tb : Box w d 58 (tcs n g h)
  lv : Box w g 59 (is ys)
  dt : Box w h 4 (bls ds)
  hn : n ≤ 4096
  hy : ys.length = 10 * pages n
  hd : ds.length = pages n
section
variable {w w' : World} {d g h n : Nat} {ys : List Int} {ds : List Bool}
theorem TbIs.on (t : TbIs w d g h n ys ds) (hb : Below w.heap.size w w') : TbIs w' d g h n ys ds :=
  ⟨t.tb.below hb t.tb.lt, t.lv.below hb t.lv.lt, t.dt.below hb t.dt.lt, t.hn, t.hy, t.hd⟩
theorem TbIs.num (t : TbIs w d g h n ys ds) : w.cell? ⟨d, 0, none⟩ = some (.int .i64 n) := t.tb.cell 0
theorem TbIs.rows (t : TbIs w d g h n ys ds) : w.cell? ⟨d, 1, none⟩ = some (rowAt g (pages n)) ∧ w.cell? ⟨d, 2, none⟩ = some (rowAt h (pages n)) := ⟨t.tb.cell 1, t.tb.cell 2⟩
theorem TbIs.place (t : TbIs w d g h n ys ds) {k : Nat} (hk : k < ys.length) : w.cell? ⟨g, k, none⟩ = some (.int .i64 (ys.getD k 0)) := (t.lv.cell k).trans (is_get hk)
theorem TbIs.flag (t : TbIs w d g h n ys ds) {k : Nat} (hk : k < pages n) : w.cell? ⟨h, k, none⟩ = some (.bool (ds.getD k false)) := (t.dt.cell k).trans (bls_get (by rw [t.hd]; exact hk))
theorem TbIs.apart (t : TbIs w d g h n ys ds) : d ≠ g ∧ d ≠ h ∧ g ≠ h := ⟨t.tb.ne t.lv (by decide), t.tb.ne t.dt (by decide), t.lv.ne t.dt (by decide)⟩
end
theorem wrap64_nat {k : Nat} (h : k ≤ 1000000) : wrap64 (k : Int) = k := by
  unfold wrap64; omega
theorem has_any {d g h n : Nat} {ys : List Int} {ds : List Bool} (w : World) (b : Int) (t : TbIs w d g h n ys ds) :
    Calls Try.prog 25 #[tp d, .int .i64 b] w fun e w' => e = .returned (.bool (hasB n b)) ∧ w = w' := by
  have c0 := t.num
  by_cases h0 : 0 ≤ b
  · by_cases h1 : b < n
    · have H := Lib.hid (hasB_yes h0 h1)
      go_enter Try.func25, Try.ntmps25
      go_wp2
      go_ret
      exact ⟨ret_bool H.out, rfl⟩
    · have H := Lib.hid (hasB_high (n := n) h1)
      go_enter Try.func25, Try.ntmps25
      go_wp2
      go_ret
      exact ⟨ret_bool H.out, rfl⟩
  · have H := Lib.hid (hasB_low (n := n) h0)
    go_enter Try.func25, Try.ntmps25
    go_wp2
    go_ret
    exact ⟨ret_bool H.out, rfl⟩
def rightN (b : Int) : Bool := decide (0 ≤ b) && decide (b ≤ 4096)
theorem tright_any (w : World) (b : Int) : Calls Try.prog 24 #[.int .i64 b] w fun e w' => e = .returned (.bool (rightN b)) ∧ w = w' := by
  have HD := Lib.hid (show rightN b = (decide (0 ≤ b) && decide (b ≤ 4096)) from rfl)
  by_cases h0 : 0 ≤ b
  · by_cases h1 : b ≤ 4096
    · have H := Lib.hid (show rightN b = true by rw [HD.out]; simp [h0, h1])
      go_enter Try.func24, Try.ntmps24
      go_wp2
      go_ret
      exact ⟨ret_bool H.out, rfl⟩
    · have H := Lib.hid (show rightN b = false by rw [HD.out]; simp [h1])
      go_enter Try.func24, Try.ntmps24
      go_wp2
      go_ret
      exact ⟨ret_bool H.out, rfl⟩
  · have H := Lib.hid (show rightN b = false by rw [HD.out]; simp [h0])
    go_enter Try.func24, Try.ntmps24
    go_wp2
    go_ret
    exact ⟨ret_bool H.out, rfl⟩
theorem tget_any {d g h n : Nat} {ys : List Int} {ds : List Bool} (w : World) (b : Int) (t : TbIs w d g h n ys ds) :
    Calls Try.prog 18 #[tp d, .int .i64 b] w fun e w' => e = .returned (.int .i64 (getT n ys b)) ∧ w = w' := by
  obtain ⟨c1, c2⟩ := t.rows
  have HH := Lib.hid (has_any w b t)
  cases hh : hasB n b
  · have H := Lib.hid (getT_no (ys := ys) hh)
    rw [hh] at HH
    go_enter Try.func18, Try.ntmps18
    go_wp2_with fail
    refine HH.out.mono ?_
    rintro e w' ⟨rfl, rfl⟩
    go_wp2
    go_ret
    exact ⟨ret_int H.out, rfl⟩
  · rw [hh] at HH
    obtain ⟨k, rfl, hk⟩ := hasB_iff.1 hh
    have HG := Lib.hid (getT_nat (ys := ys) hk)
    have hk1 : k < ys.length := by rw [t.hy]; have := pages_up n; omega
    have ck := t.place hk1
    have hp : k / 10 < pages n := by unfold pages; omega
    have hw : wrap64 ((k : Int) / 10) = ((k / 10 : Nat) : Int) := by rw [show ((k : Int) / 10) = ((k / 10 : Nat) : Int) by omega]; exact wrap64_nat (by have := t.hn; omega)
    rw [← HG.out] at ck
    clear HG
    generalize getT n ys (k : Int) = v at ck ⊢
    rw [show k = k / 10 * 10 + k % 10 by omega] at ck
    have hpi : ((k / 10 : Nat) : Int) < (pages n : Int) := by omega
    clear hp hk1
    go_enter Try.func18, Try.ntmps18
    go_wp2_with fail
    refine HH.out.mono ?_
    rintro e w' ⟨rfl, rfl⟩
    go_wp2
    go_ret
    exact ⟨ret_int rfl, rfl⟩
theorem made_is (m : Nat) : (madeCells (is z10).toArray m) = (is (List.replicate m 0)).toArray := by
  apply Array.ext_getElem?
  intro i
  by_cases hi : i < m
  · have hz : i % 10 < 10 := Nat.mod_lt _ (by decide)
    have e : ∀ k, k < 10 → (is z10).toArray[k]! = Value.int .i64 0 := fun k hk => by
      have e2 : is z10 = List.replicate 10 (Value.int .i64 0) := rfl
      rw [e2]
      generalize hm : (10 : Nat) = m10 at hk ⊢
      simp [hk]
    have e3 : (is z10).toArray.size = 10 := rfl
    have e4 := e _ hz
    generalize is z10 = Z at e3 e4 ⊢
    simp [madeCells, is, hi, e3]
    simpa using e4
  · simp [madeCells, is, hi]
theorem made_bls (m : Nat) : (madeCells #[Value.bool false] m) = (bls (List.replicate m false)).toArray := by
  apply Array.ext_getElem?
  intro i
  by_cases hi : i < m
  · simp [madeCells, hi, Nat.mod_one]
  · simp [madeCells, hi]
theorem make_leaves (w : World) (m : Nat) (hm : m ≤ 410) :
    (Instr.makeSlice 55 (.int .i64 (m : Int)) (.int .i64 (m : Int))).run Try.prog w = .ok (rowAt w.heap.size m) (w.alloc (.cells (is (List.replicate (10 * m) 0)).toArray 59)) := by
  obtain ⟨i, hi, hz, hs, hb⟩ := info_parts (P := Try.prog) (e := 59) (z := .agg (is z10).toArray) (size := 10) (bytes := 80) (by kernel_rfl)
  have hr := run_make (P := Try.prog) w 55 59 i _ Try.underlying55 hi hz .i64 .i64 m m (by omega) (Int.le_refl _) (by rw [hb]; omega) (by omega)
  rw [hr, hs, Int.toNat_natCast, show (Value.agg (is z10).toArray).cells = (is z10).toArray from rfl, made_is, Nat.mul_comm]
theorem make_flags (w : World) (m : Nat) (hm : m ≤ 500) :
    (Instr.makeSlice 56 (.int .i64 (m : Int)) (.int .i64 (m : Int))).run Try.prog w = .ok (rowAt w.heap.size m) (w.alloc (.cells (bls (List.replicate m false)).toArray 4)) := by
  obtain ⟨i, hi, hz, hs, hb⟩ := info_parts (P := Try.prog) (e := 4) (z := .bool false) (size := 1) (bytes := 1) (by kernel_rfl)
  have hr := run_make (P := Try.prog) w 56 4 i _ Try.underlying56 hi hz .i64 .i64 m m (by omega) (Int.le_refl _) (by rw [hb]; omega) (by omega)
  rw [hr, hs, Int.toNat_natCast, show (Value.bool false).cells = #[Value.bool false] from rfl, made_bls, Nat.mul_one]
theorem pages_le {n : Nat} (h : n ≤ 4096) : pages n ≤ 410 := by unfold pages; omega
theorem three_new (w : World) (o1 o2 o3 : Obj) : (((w.alloc o1).alloc o2).alloc o3).heap[w.heap.size]? = some o1 ∧ (((w.alloc o1).alloc o2).alloc o3).heap[w.heap.size + 1]? = some o2 ∧
    (((w.alloc o1).alloc o2).alloc o3).heap[w.heap.size + 1 + 1]? = some o3 ∧ Below w.heap.size w (((w.alloc o1).alloc o2).alloc o3).drew := by
  refine ⟨?_, ?_, ?_, (((((Below.refl _ _).alloc (Nat.le_refl _) _).alloc (by simp) _).alloc (by simp; omega) _)).drew⟩
  · show (((w.heap.push o1).push o2).push o3)[w.heap.size ]? = _
    rw [Array.getElem?_push, if_neg (by simp; omega), Array.getElem?_push, if_neg (by simp), Array.getElem?_push, if_pos rfl]
  · show (((w.heap.push o1).push o2).push o3)[w.heap.size + 1]? = _
    rw [Array.getElem?_push, if_neg (by simp), Array.getElem?_push, if_pos (by simp)]
  · show (((w.heap.push o1).push o2).push o3)[w.heap.size + 1 + 1]? = _
    rw [Array.getElem?_push, if_pos (by simp)]
theorem tbnew_any (n : Nat) (w : World) (hn : n ≤ 4096) :
    Calls Try.prog 10 #[.int .i64 n] w fun e w' => ∃ d g h, e = .returned (tp d) ∧ TbIs w' d g h n (List.replicate (10 * pages n) 0) (List.replicate (pages n) false) ∧ w.heap.size ≤ d ∧ w.heap.size ≤ g ∧ w.heap.size ≤ h ∧ Below w.heap.size w w' := by
  have HR := Lib.hid fun w => tright_any w (n : Int)
  rw [show rightN n = true by unfold rightN; simp; omega] at HR
  have hm1 := fun w' => make_leaves w' (pages n) (pages_le hn)
  have hm2 := fun w' => make_flags w' (pages n) (by have := pages_le hn; omega)
  have hp : ((n : Int) + 10 - 1) / 10 = (pages n : Int) := by unfold pages; omega
  have HN := Lib.hid hn
  generalize hY : is (List.replicate (10 * pages n) 0) = Y at *
  generalize hD : bls (List.replicate (pages n) false) = D at *
  have HY := Lib.hid hY
  have HD := Lib.hid hD
  clear hY hD
  go_enter Try.func10, Try.ntmps10
  go_wp2_with fail
  refine (HR.out _).mono ?_
  rintro e w' ⟨rfl, rfl⟩
  go_wp2
  go_region
  all_goals go_wp2
  all_goals go_ret
  · obtain ⟨x1, x2, x3, xb⟩ := three_new w (.cells Y.toArray 59) (.cells D.toArray 4) (.cells #[.int .i64 n, rowAt w.heap.size (pages n), rowAt (w.heap.size + 1) (pages n)] 58)
    exact ⟨_, _, _, rfl, ⟨x3, by rw [HY.out]; exact x1, by rw [HD.out]; exact x2, HN.out, by simp, by simp⟩, by omega, by omega, by omega, xb⟩
  · obtain ⟨x1, x2, x3, xb⟩ := three_new w (.cells D.toArray 4) (.cells Y.toArray 59) (.cells #[.int .i64 n, rowAt (w.heap.size + 1) (pages n), rowAt w.heap.size (pages n)] 58)
    exact ⟨_, _, _, rfl, ⟨x3, by rw [HY.out]; exact x2, by rw [HD.out]; exact x1, HN.out, by simp, by simp⟩, by omega, by omega, by omega, xb⟩
end Go.Proofs.Ytcligeajgbibnaa

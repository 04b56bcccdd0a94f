/-
  'awake' of layer 10 answers true.
-/
import Derived.Test.YtajehmdmgkhkpaaLvI
namespace Go.Proofs.Ytajehmdmgkhkpaa
open Go.RowKit Geom Lv
set_option linter.unusedVariables false

theorem awL1 : doM 6 8 [] 1 7 false = ([(1, 7)], true) ∧ doM 6 8 [(1, 7)] 1 8 false = ([(1, 7)], false) ∧ pv 2 6 8 [(1, 7)] (2, 0) = some 7 := by decide
theorem awL2 : cn 2 6 8 [(1, 7)] 2 = 1 ∧ doM 6 8 [(1, 7)] 2 0 true = ([(1, 7)], false) ∧ doM 6 8 [(1, 7)] 1 0 true = ([], true) ∧ cn 2 6 8 [] 2 = 0 := by decide
theorem awL3 : Ok 2 8 6 8 3 := by decide
set_option maxRecDepth 100000 in
set_option maxHeartbeats 2000000 in
theorem awake10_any (w : World) : Calls Try.prog 9 #[] w fun e w' => e = .returned (.bool true) ∧ Below w.heap.size w w' := by
  have HN := Lib.hid fun w => lvnew_any 2 8 6 8 3 w awL3
  obtain ⟨a1, a2, a3⟩ := awL1
  obtain ⟨a4, a5, a6, a7⟩ := awL2
  have HA := Lib.hid (And.intro a1 (And.intro a2 a3))
  have HB := Lib.hid (And.intro a4 (And.intro a5 (And.intro a6 a7)))
  clear a1 a2 a3 a4 a5 a6 a7
  go_enter Try.func9, Try.ntmps9
  go_wp2_with fail
  have hb0 : Below w.heap.size w (w.alloc (.cells #[.int .i64 2, .int .i64 8, .int .i64 6, .int .i64 8, .int .i64 3] 23)) := below_alloc1 (Below.refl _ _)
  refine (HN.out _).mono ?_
  rintro e w1 ⟨d, b, c, rfl, t1, hd, hb, hc, hb1⟩
  have G := Lib.hid (show w.heap.size ≤ d ∧ w.heap.size ≤ b ∧ w.heap.size ≤ c from by have := hb0.size; omega)
  have B1 := Lib.hid (bthen hb0 hb1)
  have T1 := Lib.hid t1
  clear t1 hd hb hc hb1 hb0 HN
  have K := Lib.hid fun (x y : World) (h : Below w.heap.size w x) (f : Fr (TwB b c) x y) => h.trans (f.below h.size (fun k hk hT => by have := G.out; rcases hT with rfl | rfl <;> omega))
  have H2 := Lib.hid (lvadd_any w1 1 7 T1.out (by omega))
  rw [HA.out.1] at H2
  go_wp2_with fail
  refine H2.out.mono ?_
  rintro e w2 ⟨rfl, t2, f2⟩
  have B2 := Lib.hid (K.out _ _ B1.out f2)
  have T2 := Lib.hid t2
  clear t2 f2 B1 T1 H2
  have H3 := Lib.hid (lvadd_any w2 1 8 T2.out (by omega))
  rw [HA.out.2.1] at H3
  go_wp2_with fail
  refine H3.out.mono ?_
  rintro e w3 ⟨rfl, t3, f3⟩
  have B3 := Lib.hid (K.out _ _ B2.out f3)
  have T3 := Lib.hid t3
  clear t3 f3 B2 T2 H3
  have H4 := Lib.hid (lvblock_any w3 (2, 0) (by decide) (by decide) T3.out)
  rw [HA.out.2.2] at H4
  go_wp2_with fail
  refine H4.out.mono ?_
  rintro e w4 ⟨rfl, hb4⟩
  have B4 := Lib.hid (B3.out.trans (hb4.mono B3.out.size))
  have T4 := Lib.hid (T3.out.on hb4)
  clear hb4 B3 T3 H4
  have H5 := Lib.hid (lvcount_any w4 2 (by decide) T4.out)
  rw [HB.out.1] at H5
  have H6 := Lib.hid (lvzone_any w4 2 (by decide) (by decide) T4.out)
  rw [zos_cn T4.out.ok T4.out.wl, HB.out.1] at H6
  go_wp2_with fail
  refine H5.out.mono ?_
  rintro e w5 ⟨rfl, rfl⟩
  go_wp2_with fail
  refine H6.out.mono ?_
  rintro e w6 ⟨V6, rfl, hown6, hb6⟩
  obtain ⟨A6, c6, rfl⟩ := own_slice hown6
  have B6 := Lib.hid (B4.out.trans (hb6.mono B4.out.size))
  have T6 := Lib.hid (T4.out.on hb6)
  clear hb6 B4 T4 H5 H6 hown6
  have H7 := Lib.hid (lvdrop_any w6 2 0 T6.out (by omega))
  rw [HB.out.2.1] at H7
  go_wp2_with fail
  refine H7.out.mono ?_
  rintro e w7 ⟨rfl, t7, f7⟩
  have B7 := Lib.hid (K.out _ _ B6.out f7)
  have T7 := Lib.hid t7
  clear t7 f7 B6 T6 H7
  have H8 := Lib.hid (lvdrop_any w7 1 0 T7.out (by omega))
  rw [HB.out.2.2.1] at H8
  go_wp2_with fail
  refine H8.out.mono ?_
  rintro e w8 ⟨rfl, t8, f8⟩
  have B8 := Lib.hid (K.out _ _ B7.out f8)
  have T8 := Lib.hid t8
  clear t8 f8 B7 T7 H8
  have H9 := Lib.hid (lvcount_any w8 2 (by decide) T8.out)
  rw [HB.out.2.2.2] at H9
  go_wp2_with fail
  refine H9.out.mono ?_
  rintro e w9 ⟨rfl, rfl⟩
  go_wp2
  go_ret
  exact ⟨rfl, B8.out⟩
end Go.Proofs.Ytajehmdmgkhkpaa

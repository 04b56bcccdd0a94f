/-
  'awake' of layer 9 answers true.
-/
import Derived.Test.YtcligeajgbibnaaTbN
namespace Go.Proofs.Ytcligeajgbibnaa
open Go.RowKit Leaf Tbl
set_option linter.unusedVariables false

abbrev ysA : List Int := [0, 0, 0, 0, 0, 0, 0, 0, 0, 0, 0, 5, 0, 0, 0, 0, 0, 0, 0, 0]
theorem awA1 : getT 12 (List.replicate (10 * pages 12) 0) 11 = 0 ∧ putY 12 (List.replicate (10 * pages 12) 0) 11 5 = ysA ∧ putD 12 (List.replicate (10 * pages 12) 0) (List.replicate (pages 12) false) 11 5 = [false, true] ∧ pages 12 = 2 := by decide
theorem awA2 : getT 12 ysA 11 = 5 ∧ cntT ysA 12 = 1 ∧ idxs [false, true] 2 = [1] := by decide
theorem awA3 : (lfls (lfsOf ysA 3 2))[12]? = some (.int .i64 3) ∧ (lfls (lfsOf ysA 3 2))[15]? = some (.int .i64 5) := ⟨rfl, rfl⟩
set_option maxRecDepth 100000 in
set_option maxHeartbeats 2000000 in
theorem awake9_any (w : World) : Calls Try.prog 9 #[] w fun e w' => e = .returned (.bool true) ∧ Below w.heap.size w w' := by
  obtain ⟨a1, a2, a3, a4⟩ := awA1
  obtain ⟨a5, a6, a7⟩ := awA2
  obtain ⟨a8, a9⟩ := awA3
  have HN := Lib.hid (tbnew_any 12 w (by decide))
  have HA := Lib.hid (And.intro a1 (And.intro a2 a3))
  have HA4 := Lib.hid a4
  have HA2 := Lib.hid (And.intro a5 (And.intro a6 a7))
  have HA3 := Lib.hid (And.intro a8 a9)
  clear a1 a2 a3 a4 a5 a6 a7 a8 a9
  generalize ysA = Y at *
  go_enter Try.func9, Try.ntmps9
  go_wp2_with fail
  refine HN.out.mono ?_
  rintro e w1 ⟨d, g, h, rfl, t1, hd1, hg1, hh1, hb1⟩
  have T1 := Lib.hid t1
  have B1 := Lib.hid hb1
  have G1 := Lib.hid (And.intro hd1 (And.intro hg1 hh1))
  clear t1 hd1 hg1 hh1 hb1 HN
  have HS := Lib.hid (tset_any w1 11 5 T1.out)
  rw [HA.out.1, HA.out.2.1, HA.out.2.2] at HS
  go_wp2_with fail
  refine HS.out.mono ?_
  rintro e w2 ⟨rfl, t2, f2⟩
  have T2 := Lib.hid t2
  have B2 : Hid (Below w.heap.size w w2) := Lib.hid (B1.out.trans (f2.below B1.out.size (fun k hk hT => by have := G1.out; rcases hT with rfl | rfl <;> omega)))
  clear t2 f2 HS B1 T1 G1
  have HL := Lib.hid (tleaves_any w2 3 T2.out)
  rw [HA4.out] at HL
  go_wp2_with fail
  refine HL.out.mono ?_
  rintro e w3 ⟨b, rfl, x3, hb3, hbl3⟩
  have T3 := Lib.hid (T2.out.on hbl3)
  have B3 := Lib.hid (B2.out.trans (hbl3.mono B2.out.size))
  have X3 := Lib.hid x3
  clear hb3 hbl3 x3 B2 T2 HL
  have HG := Lib.hid (tget_any w3 11 T3.out)
  have HC := Lib.hid (tcount_any w3 T3.out)
  have HD := Lib.hid (tdirty_any w3 T3.out)
  rw [HA4.out, HA2.out.2.2] at HD
  rw [HA2.out.1] at HG
  rw [HA2.out.2.1] at HC
  have c12 : w3.cell? ⟨b, 12, none⟩ = some (.int .i64 3) := (X3.out.cell 12).trans HA3.out.1
  have c15 : w3.cell? ⟨b, 15, none⟩ = some (.int .i64 5) := (X3.out.cell 15).trans HA3.out.2
  go_wp2_with fail
  refine HG.out.mono ?_
  rintro e w4 ⟨rfl, rfl⟩
  go_wp2_with fail
  refine HC.out.mono ?_
  rintro e w4 ⟨rfl, rfl⟩
  go_wp2_with fail
  refine HD.out.mono ?_
  rintro e w4 ⟨V, rfl, hown, hb4⟩
  obtain ⟨A4, c4, rfl⟩ := own_slice hown
  have B4 := Lib.hid (B3.out.trans (hb4.mono B3.out.size))
  have HO := Lib.hid hown
  clear hb4 hown B3
  go_wp2_with fail
  refine (isame_any A4 (some ⟨w4.heap.size, 0, none⟩) 1 c4 1 1 (w4.alloc (.cells #[.int .i64 1] 3)) (by decide) (by decide) [1] [1] rfl rfl (w4.heap.size + 1) (((Rd.own HO.out).alloc (Nat.le_refl _) _).more (Nat.le_succ _)) (by
    have := rd_new w4 [.int .i64 1] 3 (0, 0)
    simpa [is] using this)).mono ?_
  rintro e w5 ⟨rfl, q, rfl⟩
  have B5 := Lib.hid (below_draws (B4.out.alloc B4.out.size (.cells #[.int .i64 1] 3 (0, 0))) q)
  go_wp2
  go_ret
  exact ⟨rfl, B5.out⟩
end Go.Proofs.Ytcligeajgbibnaa

/-
  'awake' answers true.
-/
import Derived.Test.YtcpnbdncdkcklaaGeomF
namespace Go.Proofs.Ytcpnbdncdkcklaa
open Go.RowKit Geom
set_option linter.unusedVariables false

theorem ex_some : Some 2 6 16 := by unfold Some; decide
theorem ex_right : okB 2 8 6 16 3 = true := by decide
theorem ex_zone : zoneOf 2 6 16 4 = 2 := by decide
theorem ex_off : offOf 6 16 4 = 3 := by decide
theorem ex_is : isB 6 16 4 = true := by decide
theorem ex_num : num 2 6 16 2 3 = 4 := by decide
theorem ex_blocks : blocks 6 16 = 8 := by decide
theorem ex_pages : pages 6 16 = 1 := by decide

set_option maxHeartbeats 2000000 in
theorem awake3_any (w : World) : Calls Try.prog 7 #[] w fun e w' => e = .returned (.bool true) ∧ Below w.heap.size w w' := by
  have hl := Lies.new w 2 8 6 16 3 23 (0, 0)
  have hb0 : Below w.heap.size w (w.alloc (.cells #[.int .i64 2, .int .i64 8, .int .i64 6, .int .i64 16, .int .i64 3] 23)) := (Below.refl _ _).alloc (Nat.le_refl _) _
  go_enter Try.func7, Try.ntmps7
  go_wp2_with fail
  generalize World.alloc _ _ = w0 at hl hb0 ⊢
  refine (at_any _ _ _ _ _ _ _ ex_some).mono ?_
  rintro e w1 ⟨rfl, hb1⟩
  rw [ex_zone, ex_off, ex_is]
  have hl1 := hl.below hb1
  have hbb := bthen hb0 hb1
  clear hl hb0 hb1
  have hm := LiesAt.new w1 2 3 30 (0, 0)
  have hl := hl1.alloc (.cells #[.int .i64 2, .int .i64 3] 30)
  have hb0 : Below w.heap.size w (w1.alloc (.cells #[.int .i64 2, .int .i64 3] 30)) := hbb.alloc hbb.size _
  obtain ⟨c0, c1, c2, c3, c4, hlt⟩ := id hl1
  clear hl1 hbb
  go_wp2_with fail
  clear c0 c1 c2 c3 c4 hlt
  generalize World.alloc _ _ = w2 at hm hl hb0 ⊢
  refine (right_any _ _ _ _ _ _ (by omega)).mono ?_
  rintro e v0 ⟨rfl, hb⟩
  rw [ex_right]
  replace hl := hl.below hb
  replace hm := hm.below hb
  replace hb0 := bthen hb0 hb
  clear hb
  obtain ⟨c0, c1, c2, c3, c4, hlt⟩ := id hl
  obtain ⟨d0, d1, hlt2⟩ := id hm
  go_wp2_with fail
  clear c0 c1 c2 c3 c4 hlt d0 d1 hlt2
  refine (blocks_any _ _ _ _ _ _ ex_some).mono ?_
  rintro e v1 ⟨rfl, hb⟩
  rw [ex_blocks]
  replace hl := hl.below hb
  replace hm := hm.below hb
  replace hb0 := bthen hb0 hb
  clear hb
  obtain ⟨c0, c1, c2, c3, c4, hlt⟩ := id hl
  obtain ⟨d0, d1, hlt2⟩ := id hm
  go_wp2_with fail
  clear c0 c1 c2 c3 c4 hlt d0 d1 hlt2
  refine (pages_any _ _ _ _ _ _ ex_some).mono ?_
  rintro e v2 ⟨rfl, hb⟩
  rw [ex_pages]
  replace hl := hl.below hb
  replace hm := hm.below hb
  replace hb0 := bthen hb0 hb
  clear hb
  obtain ⟨c0, c1, c2, c3, c4, hlt⟩ := id hl
  obtain ⟨d0, d1, hlt2⟩ := id hm
  go_wp2_with fail
  clear c0 c1 c2 c3 c4 hlt d0 d1 hlt2
  refine (most_any _ _ _ _ _ _ ex_some).mono ?_
  rintro e v3 ⟨rfl, hb⟩
  replace hl := hl.below hb
  replace hm := hm.below hb
  replace hb0 := bthen hb0 hb
  clear hb
  obtain ⟨c0, c1, c2, c3, c4, hlt⟩ := id hl
  obtain ⟨d0, d1, hlt2⟩ := id hm
  go_wp2_with fail
  clear c0 c1 c2 c3 c4 hlt d0 d1 hlt2
  refine (zones_any _ _ _ _ _ _ ex_some).mono ?_
  rintro e v4 ⟨rfl, hb⟩
  replace hl := hl.below hb
  replace hm := hm.below hb
  replace hb0 := bthen hb0 hb
  clear hb
  obtain ⟨c0, c1, c2, c3, c4, hlt⟩ := id hl
  obtain ⟨d0, d1, hlt2⟩ := id hm
  go_wp2_with fail
  clear c0 c1 c2 c3 c4 hlt d0 d1 hlt2
  refine (num_any _ _ _ _ _ _ _ _ ex_some).mono ?_
  rintro e v5 ⟨rfl, hb⟩
  rw [ex_num]
  go_wp2
  go_ret
  exact ⟨rfl, bthen hb0 hb⟩
end Go.Proofs.Ytcpnbdncdkcklaa

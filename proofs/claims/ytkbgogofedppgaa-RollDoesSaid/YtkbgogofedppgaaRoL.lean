/-
  The law Does of layer 15.
-/
import Derived.Test.YtkbgogofedppgaaRoI
import Derived.Test.YtkbgogofedppgaaFoOp
namespace Go.Proofs.Ytkbgogofedppgaa
open Go.RowKit Word Rec Scan Roll Leaf
set_option linter.unusedVariables false

set_option maxRecDepth 100000 in
set_option maxHeartbeats 4000000 in
theorem rolaw_does (A : Option Addr) (len cap : Nat) (ps : List Int) (G : Option Addr) (gn gcap : Nat) (L : List Gv) (w : World) (hlm : len ≤ maxLen) (hl : ps.length = len) (hr : Rd w w.heap.size A (is ps)) (hgm : gn ≤ maxLen) (hgl : L.length = gn) (hcm : ∀ x ∈ L, x.g.ch.length ≤ maxLen) (hg : GRd w w.heap.size G L) :
    Calls Try.prog 3 #[.slice A len cap, .slice G gn gcap] w fun e w' => e = .returned (.bool true) ∧ Below w.heap.size w w' := by
  have QW := Lib.hid fun w' => awake_any w'
  have HN := Lib.hid (And.intro hl (And.intro hr (And.intro hgl (And.intro hcm hg))))
  have HM := Lib.hid hgm
  unfold maxLen at hlm hgm
  clear hl hr hgl hcm hg
  go_enter Try.func3, Try.ntmps3
  go_wp2_with fail
  refine (QW.out _).mono ?_
  rintro e w1 ⟨rfl, hB1⟩
  have HB1 := Lib.hid hB1
  have HG1 := Lib.hid (HN.out.2.2.2.2.on hB1)
  have HR1 := Lib.hid ((HN.out.2.1.below hB1).more hB1.size)
  clear hB1
  by_cases q1 : (len : Int) ≤ 100
  · go_wp2_with fail
    refine (few_any G gn gcap L w1 HN.out.2.2.1 HM.out HG1.out.1).mono ?_
    rintro e w2 ⟨⟨b, rfl⟩, rfl⟩
    cases b
    · go_wp2_with fail
      refine (QW.out _).mono ?_
      rintro e w9 ⟨rfl, hb9⟩
      have H9 := Lib.hid (bthen HB1.out hb9)
      clear hb9
      go_wp2
      go_ret
      exact ⟨rfl, H9.out⟩
    · go_wp2_with fail
      go_loop [5, 6] (fun n i => ∃ k u : Nat, k ≤ gn ∧ i = .int .i64 k ∧ n = .int .i64 u ∧ u ≤ k ∧ u = users ((L.map Gv.g).take k)) (fun _ i => gn - (intOf i).toNat)
      case atStart => exact ⟨0, 0, by omega, rfl, rfl, Nat.le_refl _, rfl⟩
      case round =>
        obtain ⟨k, u, hk, rfl, rfl, huk, hu⟩ := hrel
        have HU := Lib.hid hu
        clear hu
        by_cases hlt : k < gn
        · have hkl : k < L.length := by rw [HN.out.2.2.1]; exact hlt
          obtain ⟨x, hx⟩ : ∃ x, L[k]? = some x := ⟨_, List.getElem?_eq_getElem hkl⟩
          obtain ⟨ad, rfl, hadb, c0, c1, c2⟩ := gv_at HG1.out.1 hx
          have HD := Lib.hid (users_take (gmap_at hx))
          obtain ⟨⟨own, sq, ch⟩, xA, xc⟩ := x
          have hki : (k : Int) < (gn : Int) := by omega
          have hui : (u : Int) < (gn : Int) := by omega
          clear hx hkl c1 c2
          cases own
          · have HE := Lib.hid (show u + 1 = users ((L.map Gv.g).take (k + 1)) by rw [HD.out, ← HU.out]; rfl)
            go_wp2
            go_round
            case rel => exact ⟨k + 1, u + 1, by omega, by go_num, by go_num, by omega, HE.out⟩
            case measure => first | (simp [intOf]; done) | (simp [intOf]; omega)
          · have HE := Lib.hid (show u = users ((L.map Gv.g).take (k + 1)) by rw [HD.out, ← HU.out]; rfl)
            go_wp2
            go_round
            case rel => exact ⟨k + 1, u, by omega, by go_num, rfl, by omega, HE.out⟩
            case measure => first | (simp [intOf]; done) | (simp [intOf]; omega)
        · obtain rfl : gn = k := by omega
          have HE := Lib.hid (show users (L.map Gv.g) = u by rw [HU.out, List.take_of_length_le (by rw [List.length_map, HN.out.2.2.1]; exact Nat.le_refl _)])
          go_wp2_with fail
          refine (do_any A len cap ps G gn gcap L w1 HN.out.1 (by omega) HN.out.2.2.1 HM.out HN.out.2.2.2.1 HR1.out HG1.out).mono ?_
          rintro e w2 ⟨V2, rfl, hown2, hb2⟩
          obtain ⟨A2, c2, rfl⟩ := own_slice hown2
          have HO2 := Lib.hid (Rd.own hown2)
          have HB2 := Lib.hid hb2
          clear hown2 hb2
          go_wp2_with fail
          refine (rdo_any A len cap ps G gn gcap L w2 HN.out.1 (by omega) HN.out.2.2.1 HM.out HN.out.2.2.2.1 ((HR1.out.below HB2.out).more HB2.out.size) (HG1.out.on HB2.out)).mono ?_
          rintro e w3 ⟨V3, rfl, hown3, hb3⟩
          obtain ⟨A3, c3, rfl⟩ := own_slice hown3
          have HB3 := Lib.hid (bthen HB2.out hb3)
          have HS := Lib.hid (isame_any A2 A3 len c2 len c3 w3 (by unfold maxLen; omega) (by unfold maxLen; omega) (doS ps (L.map Gv.g)) (doS ps (L.map Gv.g)) (by rw [doS_length, HN.out.1]) (by rw [doS_length, HN.out.1]) w3.heap.size ((HO2.out.below hb3).more hb3.size) (Rd.own hown3))
          rw [beq_self_eq_true] at HS
          clear hown3 hb3
          go_wp2_with fail
          refine HS.out.mono ?_
          rintro e w4 ⟨rfl, n, rfl⟩
          have HB4 := Lib.hid (below_draws HB3.out n)
          have HUs := Lib.hid (users_any G gn gcap L (w3.drewN n) HN.out.2.2.1 HM.out (HG1.out.on HB4.out).1)
          rw [HE.out] at HUs
          clear HS
          generalize w3.drewN n = w4 at *
          go_wp2_with fail
          refine HUs.out.mono ?_
          rintro e w5 ⟨rfl, hb5⟩
          have HB5 := Lib.hid (bthen HB1.out (bthen HB4.out hb5))
          clear hb5 HUs
          go_wp2
          go_ret
          exact ⟨rfl, HB5.out⟩
  · go_wp2_with fail
    refine (QW.out _).mono ?_
    rintro e w9 ⟨rfl, hb9⟩
    have H9 := Lib.hid (bthen HB1.out hb9)
    clear hb9
    go_wp2
    go_ret
    exact ⟨rfl, H9.out⟩
end Go.Proofs.Ytkbgogofedppgaa

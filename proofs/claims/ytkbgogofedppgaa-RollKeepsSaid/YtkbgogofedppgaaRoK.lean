/-
  The law Keeps of layer 15.
-/
import Derived.Test.YtkbgogofedppgaaRoN
namespace Go.Proofs.Ytkbgogofedppgaa
open Go.RowKit Word Rec Scan Roll Leaf
set_option linter.unusedVariables false

/-- a place of the first group's changes is laid over -/
theorem GOwn.setHead {w : World} {base gc xc y : Nat} {V : Value} {o : Bool} {s z : Int} {ch : List Ch} {tl : List Gv} (h : GOwn w base V (⟨⟨o, s, ch⟩, some ⟨gc, 0, none⟩, xc⟩ :: tl)) (hy : y < ch.length) :
    GOwn (w.setCell ⟨gc, y * 2 + 1, none⟩ (.int .i64 z)) base V (⟨⟨o, s, ch.set y ⟨(ch[y]'hy).b, z⟩⟩, some ⟨gc, 0, none⟩, xc⟩ :: tl) ∧ w.grownBy (w.setCell ⟨gc, y * 2 + 1, none⟩ (.int .i64 z)) (some gc) := by
  have hh : w.ownsRow base 44 2 (.slice (some ⟨gc, 0, none⟩) ch.length xc) ch.length (hls ch) := h.each _ List.mem_cons_self
  obtain ⟨h1, h2⟩ := hh.stored (y * 2 + 1) (.int .i64 z)
  refine ⟨⟨?_, fun x hx => ?_, ?_⟩, h2⟩
  · have hr := row_kept h.row h2 (fun b hb e => types_apart h.row hh b hb e)
    have e : gvs (⟨⟨o, s, ch.set y ⟨(ch[y]'hy).b, z⟩⟩, some ⟨gc, 0, none⟩, xc⟩ :: tl) = gvs (⟨⟨o, s, ch⟩, some ⟨gc, 0, none⟩, xc⟩ :: tl) := by
      rw [gvs_cons, gvs_cons]
      simp [gcs, Gv.v]
    rw [e]
    exact hr
  · rcases List.mem_cons.1 hx with rfl | hx
    · show World.ownsRow _ _ _ _ (.slice (some ⟨gc, 0, none⟩) (ch.set y ⟨(ch[y]'hy).b, z⟩).length xc) (ch.set y ⟨(ch[y]'hy).b, z⟩).length _
      rw [List.length_set, ← hls_set ch y z hy]
      exact h1
    · exact row_kept (h.each x (List.mem_cons_of_mem _ hx)) h2 (fun b hb e => (List.pairwise_cons.1 h.apart).1 x hx gc rfl (by injection e with e; rw [e]; exact hb))
  · rw [List.pairwise_cons]
    exact ⟨fun x hx b hb => (List.pairwise_cons.1 h.apart).1 x hx b hb, (List.pairwise_cons.1 h.apart).2⟩
set_option maxRecDepth 100000 in
set_option maxHeartbeats 4000000 in
theorem rolaw_keeps (A : Option Addr) (len cap : Nat) (l : List Fo) (P : Option Addr) (pl pcap : Nat) (ps : List Int) (w : World) (hlm : len ≤ maxLen) (hl : l.length = len) (hin : ∀ f ∈ l, FIn f) (hr : Rd w w.heap.size A (fls l)) (hpm : pl ≤ maxLen) (hpl : ps.length = pl) (hpr : Rd w w.heap.size P (is ps)) :
    Calls Try.prog 5 #[.slice A len cap, .slice P pl pcap] w fun e w' => e = .returned (.bool true) ∧ Below w.heap.size w w' := by
  have QW := Lib.hid fun w' => awake_any w'
  have HN := Lib.hid (And.intro hl (And.intro hin (And.intro hpl (And.intro hr hpr))))
  have HLp := Lib.hid (show (is ps).length = pl * 1 by rw [is_length, hpl, Nat.mul_one])
  unfold maxLen at hlm hpm
  clear hl hr hpl hin hpr
  go_enter Try.func5, Try.ntmps5
  go_wp2_with fail
  refine (QW.out _).mono ?_
  rintro e w1 ⟨rfl, hB1⟩
  have HB1 := Lib.hid hB1
  have HF1 := Lib.hid (And.intro ((HN.out.2.2.2.1.below hB1).more hB1.size) ((HN.out.2.2.2.2.below hB1).more hB1.size))
  clear hB1
  by_cases q1 : (len : Int) ≤ 100
  · by_cases q2 : (pl : Int) ≤ 100
    ·
      go_wp2_with (first
        | (at_builtin; refine wpList_append_copy _ rfl _ _ _ rfl 3 _ 1 8 elemJ rfl P pl pcap rfl (is ps) HLp.out HF1.out.2 (is_one ps) (by simp only [maxLen]; omega) (by omega) ?_; go_loud (intro A2 c2 w2 hown2 hb2; have H2 := Lib.hid (And.intro (Rd.own hown2) (And.intro ((HF1.out.1.below hb2).more hb2.size) ((HF1.out.2.below hb2).more hb2.size))); have HB2 := Lib.hid (bthen HB1.out hb2); clear hown2 hb2))
        | fail)
      refine (groups_any A len cap l w2 HN.out.1 (by omega) HN.out.2.1 H2.out.2.1).mono ?_
      rintro e w3 ⟨V6, L6, rfl, hm6, hO6, hb3⟩
      obtain ⟨A6, c6, rfl⟩ := own_slice hO6.row
      have HM6 := Lib.hid hm6
      have HO6 := Lib.hid hO6
      have HB3 := Lib.hid hb3
      clear hm6 hO6 hb3
      go_wp2_with fail
      refine (groups_any A len cap l w3 HN.out.1 (by omega) HN.out.2.1 ((H2.out.2.1.below HB3.out).more HB3.out.size)).mono ?_
      rintro e w4 ⟨V7, L7, rfl, hm7, hO7, hb4⟩
      obtain ⟨A7, c7, rfl⟩ := own_slice hO7.row
      have HM7 := Lib.hid hm7
      have HO7 := Lib.hid hO7
      have HO64 := Lib.hid (HO6.out.on hb4)
      have HB4 := Lib.hid (bthen HB3.out hb4)
      have hl6 := gmap_len HM6.out
      have hl7 : L7.length = L6.length := by
        have h := congrArg List.length (HM7.out.trans HM6.out.symm)
        rwa [List.length_map, List.length_map] at h
      rw [HN.out.1] at hl6
      rw [hl7]
      have HC6 := Lib.hid (fun x hx => Nat.le_trans (gmap_ch HM6.out x hx) (by rw [HN.out.1]; omega) : ∀ x ∈ L6, x.g.ch.length ≤ 100)
      have HC7 := Lib.hid (fun x hx => Nat.le_trans (gmap_ch HM7.out x hx) (by rw [HN.out.1]; omega) : ∀ x ∈ L7, x.g.ch.length ≤ 100)
      rw [hl7] at HO7
      have HOW : Hid (w3.heap.size ≤ w3.heap.size) := Lib.hid (Nat.le_refl _)
      clear hm7 hO7 hb4
      generalize hn6 : L6.length = n6 at *
      have HL6 := Lib.hid (And.intro hn6 hl7)
      clear hn6 hl7
      go_wp2_with fail
      refine (do_any P pl pcap ps A6 n6 c6 L6 w4 HN.out.2.2.1 (by omega) HL6.out.1 (by unfold maxLen; omega) (fun x hx => by
        have := HC6.out x hx
        unfold maxLen
        omega) ((H2.out.2.2.below HB4.out).more HB4.out.size) HO64.out.rd).mono ?_
      rintro e w5 ⟨V8, rfl, hown8, hb5⟩
      obtain ⟨A8, c8, rfl⟩ := own_slice hown8
      have H5 := Lib.hid (And.intro hown8 hb5)
      clear hown8 hb5
      go_wp2_with fail
      go_loopw [9] (fun i wr => ∃ (k : Nat) (zs : List Int), k ≤ pl ∧ i = .int .i64 k ∧ wr.ownsRow w4.heap.size 3 1 (.slice A8 pl c8) pl (is zs) ∧ Below w4.heap.size w4 wr) (fun i _ => pl - (intOf i).toNat)
      case atStart => exact ⟨0, _, by omega, rfl, H5.out.1, H5.out.2⟩
      case round =>
        obtain ⟨k, zs, hk, rfl, hown, hbl⟩ := hrel
        by_cases hkl : k < pl
        · obtain ⟨g8, rfl, hg8, hg8l⟩ := own_at hown (by omega)
          have hzl : zs.length = pl := by
            have h := hown.1
            rwa [is_length, Nat.mul_one] at h
          have e0 : wr.cell? ⟨g8, k, none⟩ = some (.int .i64 (zs.getD k 0)) := (hown.cellAt k (by omega)).trans (is_get (by omega))
          have f0 := hown.frozenAt k
          have HS := Lib.hid (hown.stored k (.int .i64 (-7)))
          have HBl := Lib.hid hbl
          generalize zs.getD k 0 = z0 at *
          have hki : (k : Int) < (pl : Int) := by omega
          clear hown hbl hzl
          go_wp2
          go_roundw
          case rel =>
            refine ⟨k + 1, zs.set k (-7), by omega, by go_num, ?_, below_stored HBl.out HS.out.2 HBl.out.size hg8⟩
            rw [is_set]
            exact HS.out.1
          case measure => first | (simp [intOf]; done) | (simp [intOf]; omega)
        · obtain rfl : pl = k := by omega
          have HK := Lib.hid (And.intro (HO64.out.on hbl) (And.intro (HO7.out.on hbl) (bthen HB4.out hbl)))
          clear hown hbl
          go_wp2_with fail
          go_loopw [10] (fun i w6 => ∃ (j : Nat) (L : List Gv), j ≤ n6 ∧ i = .int .i64 j ∧ L.length = n6 ∧ L.drop 1 = L6.drop 1 ∧ (∀ x ∈ L, x.g.ch.length ≤ 100 ∧ ∀ b, x.v.ownBlock = some b → b < w3.heap.size) ∧ GOwn w6 w2.heap.size (.slice A6 n6 c6) L ∧ GOwn w6 w3.heap.size (.slice A7 n6 c7) L7 ∧ Below w2.heap.size w2 w6) (fun i _ => n6 - (intOf i).toNat)
          case atStart => exact ⟨0, L6, by omega, rfl, HL6.out.1, rfl, fun x hx => ⟨HC6.out x hx, fun b hb => ((HO6.out.each x hx).lt b hb).2⟩, HK.out.1, HK.out.2.1, HK.out.2.2⟩
          case round =>
            clear HK
            obtain ⟨j, L, hj, rfl, hLl, hLd, hLc, hog, ho7, hb6⟩ := hrel
            have HG := Lib.hid (And.intro hLl (And.intro hLd (And.intro hLc (And.intro hog (And.intro ho7 hb6)))))
            clear hLl hLd hLc hog ho7 hb6
            have hrow0 := HG.out.2.2.2.1.row
            rw [HG.out.1] at hrow0
            have HRow := Lib.hid hrow0
            clear hrow0
            generalize hw6 : wr = wk at *
            clear hw6
            by_cases hjl : j < n6
            · obtain ⟨g6, rfl, hg6, hg6l⟩ := own_at HRow.out (by omega)
              by_cases hj0 : j = 0
              · subst hj0
                obtain ⟨x0, tl, rfl⟩ : ∃ x tl, L = x :: tl := by
                  cases L with
                  | nil => have := HG.out.1; simp at this; omega
                  | cons x tl => exact ⟨x, tl, rfl⟩
                obtain ⟨⟨o, s, ch⟩, xA, xc⟩ := x0
                have hcn : ch.length ≤ 100 := (HG.out.2.2.1 _ List.mem_cons_self).1
                have HLow := Lib.hid (fun x hx => HG.out.2.2.1 x (List.mem_cons_of_mem _ hx) : ∀ x ∈ tl, x.g.ch.length ≤ 100 ∧ ∀ b, x.v.ownBlock = some b → b < w3.heap.size)
                have HLo0 := Lib.hid (fun b (hb : (Value.slice xA ch.length xc).ownBlock = some b) => (HG.out.2.2.1 _ List.mem_cons_self).2 b hb)
                have HTl := Lib.hid (show tl = L6.drop 1 from HG.out.2.1)
                have HTn := Lib.hid (show tl.length + 1 = n6 from HG.out.1)
                have HGo := Lib.hid (And.intro HG.out.2.2.2.1 (And.intro HG.out.2.2.2.2.1 HG.out.2.2.2.2.2))
                generalize hcl : ch.length = cn at *
                have hn6i : (0 : Int) < (n6 : Int) := by omega
                go_wp2
                go_loopw [11] (fun k w7 => ∃ (y : Nat) (ch' : List Ch), y ≤ cn ∧ k = .int .i64 y ∧ ch'.length = cn ∧ GOwn w7 w2.heap.size (.slice (some ⟨g6, 0, none⟩) n6 c6) (⟨⟨o, s, ch'⟩, xA, xc⟩ :: tl) ∧ GOwn w7 w3.heap.size (.slice A7 n6 c7) L7 ∧ Below w2.heap.size w2 w7) (fun k _ => cn - (intOf k).toNat)
                case atStart => exact ⟨0, ch, by omega, rfl, hcl, HGo.out.1, HGo.out.2.1, HGo.out.2.2⟩
                case round =>
                  clear HG HGo HRow hcl
                  obtain ⟨y, ch', hy, rfl, hcl', hog, ho7, hb7⟩ := hrel
                  have HI := Lib.hid (And.intro hog (And.intro ho7 hb7))
                  have HCL := Lib.hid hcl'
                  have hrow1 := hog.row
                  rw [List.length_cons, HTn.out] at hrow1
                  have k2 : wr.cell? ⟨g6, 2, none⟩ = some (.slice xA cn xc) := by
                    rw [← hcl']
                    exact (Rd.own hrow1).cell0 (k := 2) rfl
                  clear hog ho7 hb7 hcl' hrow1
                  by_cases hyl : y < cn
                  · have hhd := HI.out.1.each _ List.mem_cons_self
                    have hyl' : y < ch'.length := by rw [HCL.out]; exact hyl
                    obtain ⟨gc, hxA, hgc, hgcl⟩ := own_at (show wr.ownsRow w2.heap.size 44 2 (.slice xA ch'.length xc) ch'.length (hls ch') from hhd) (by omega)
                    subst hxA
                    have e0 : wr.cell? ⟨gc, y * 2 + 1, none⟩ = some (.int .i64 (ch'[y]'hyl').p) := (Rd.own (show wr.ownsRow w2.heap.size 44 2 (.slice (some ⟨gc, 0, none⟩) ch'.length xc) ch'.length (hls ch') from hhd)).cell0 (hls_at (j := 1) (List.getElem?_eq_getElem hyl') rfl)
                    have f0 : wr.frozen? ⟨gc, y * 2 + 1, none⟩ = false := hhd.frozenAt (y * 2 + 1)
                    have HS := Lib.hid (HI.out.1.setHead (z := -7) hyl')
                    have HBf := Lib.hid (And.intro hgc (show gc < w3.heap.size from HLo0.out gc rfl))
                    generalize (ch'[y]'hyl').p = pz at e0
                    have hyi : (y : Int) < (cn : Int) := by omega
                    clear hhd hgc hgcl
                    go_wp2
                    go_roundw
                    case rel =>
                      refine ⟨y + 1, ch'.set y ⟨(ch'[y]'hyl').b, -7⟩, by omega, by go_num, by rw [List.length_set]; exact HCL.out, HS.out.1, ?_, below_stored HI.out.2.2 HS.out.2 HI.out.2.2.size HBf.out.1⟩
                      refine HI.out.2.1.beside HS.out.2 (fun b hb e => ?_) (fun x hx b hb e => ?_)
                      · injection e with e
                        have := (HI.out.2.1.row.lt b hb).1
                        have := HBf.out.2
                        omega
                      · injection e with e
                        have := ((HI.out.2.1.each x hx).lt b hb).1
                        have := HBf.out.2
                        omega
                    case measure => first | (simp [intOf]; done) | (simp [intOf]; omega)
                  · obtain rfl : cn = y := by omega
                    go_wp2
                    go_roundw
                    case rel =>
                      refine ⟨1, ⟨⟨o, s, ch'⟩, xA, xc⟩ :: tl, by omega, by go_num, HTn.out, HTl.out, fun x hx => ?_, HI.out.1, HI.out.2.1, HI.out.2.2⟩
                      rcases List.mem_cons.1 hx with rfl | hx
                      · refine ⟨by show ch'.length ≤ 100; rw [HCL.out]; exact hcn, fun b hb => HLo0.out b ?_⟩
                        have hb : (Value.slice xA ch'.length xc).ownBlock = some b := hb
                        rwa [HCL.out] at hb
                      · exact HLow.out x hx
                    case measure => first | (simp [intOf]; done) | (simp [intOf]; omega)
              · obtain ⟨x, hx⟩ : ∃ x, L[j]? = some x := ⟨_, List.getElem?_eq_getElem (by rw [HG.out.1]; exact hjl)⟩
                have k2 : wk.cell? ⟨g6, j * 3 + 2, none⟩ = some x.v := (Rd.own HRow.out).cell0 (gvs_at (j := 2) hx rfl)
                have hcn := (HG.out.2.2.1 x (List.mem_of_getElem? hx)).1
                obtain ⟨⟨o, s, ch⟩, xA, xc⟩ := x
                simp only [Gv.v] at k2 hcn
                generalize ch.length = cn at *
                have hji : (j : Int) < (n6 : Int) := by omega
                have hjb : ((j : Int) == 0) = false := by simp; omega
                have HJ0 := Lib.hid hj0
                clear hx hj0
                go_wp2
                go_loop [11] (fun k => ∃ y : Nat, y ≤ cn ∧ k = .int .i64 y) (fun k => cn - (intOf k).toNat)
                case atStart => exact ⟨0, by omega, rfl⟩
                case round =>
                  obtain ⟨y, hy, rfl⟩ := hrel
                  by_cases hyl : y < cn
                  · have hyi : (y : Int) < (cn : Int) := by omega
                    go_wp2
                    go_round
                    case rel => exact ⟨y + 1, by omega, by go_num⟩
                    case measure => first | (simp [intOf]; done) | (simp [intOf]; omega)
                  · obtain rfl : cn = y := by omega
                    go_wp2
                    go_roundw
                    case rel => exact ⟨j + 1, L, by omega, by go_num, HG.out.1, HG.out.2.1, HG.out.2.2.1, HG.out.2.2.2.1, HG.out.2.2.2.2.1, HG.out.2.2.2.2.2⟩
                    case measure => first | (simp [intOf]; done) | (simp [intOf]; omega)
            · obtain rfl : n6 = j := by omega
              have HBk := Lib.hid HG.out.2.2.2.2.2
              have HRf := Lib.hid (And.intro ((H2.out.1.below HBk.out).more HBk.out.size) (And.intro ((H2.out.2.1.below HBk.out).more HBk.out.size) ((H2.out.2.2.below HBk.out).more HBk.out.size)))
              by_cases h1n : 1 < n6
              · obtain ⟨g6, rfl, _, hg6l⟩ := own_at HRow.out (by omega)
                have hrow7 := HG.out.2.2.2.2.1.row
                rw [HL6.out.2] at hrow7
                obtain ⟨g7, rfl, _, hg7l⟩ := own_at hrow7 (by omega)
                have hc6 : ¬ c6 = 1 := by have := (own_cap HRow.out).1; omega
                have hc7 : ¬ c7 = 1 := by have := (own_cap hrow7).1; omega
                have h1c6 : 1 ≤ c6 := by have := (own_cap HRow.out).1; omega
                have h1c7 : 1 ≤ c7 := by have := (own_cap hrow7).1; omega
                have hq1 : decide ((1 : Int) < (n6 : Int)) = true := by simp; omega
                have hq2 : decide (1 < n6) = true := by simp [h1n]
                have H7w := Lib.hid (HG.out.2.2.2.2.1.rd)
                have HMd := Lib.hid (show (L.drop 1).map Gv.g = (L7.drop 1).map Gv.g by rw [HG.out.2.1, List.map_drop, List.map_drop, HM6.out, HM7.out])
                have HSq : Hid (∀ n, Calls Try.prog 14 #[.slice (some ⟨g6, 3, none⟩) (n6 - 1) (c6 - 1), .slice (some ⟨g7, 3, none⟩) (n6 - 1) (c7 - 1)] (wk.drewN n) fun e w' => e = .returned (.bool true) ∧ ∃ m, w' = (wk.drewN n).drewN m) := Lib.hid fun n => (rgsame_any (some ⟨g6, 3, none⟩) (some ⟨g7, 3, none⟩) (n6 - 1) (c6 - 1) (n6 - 1) (c7 - 1) (wk.drewN n) (by omega) (by omega) (L.drop 1) (L7.drop 1) (by rw [List.length_drop, HG.out.1]) (by rw [List.length_drop, HL6.out.2]) (fun x hx => Nat.le_trans (HG.out.2.2.1 x (List.mem_of_mem_drop hx)).1 (by decide)) (fun x hx => Nat.le_trans (HC7.out x (List.mem_of_mem_drop hx)) (by decide)) wk.heap.size ((HG.out.2.2.2.1.rd.back 1).drewN n) ((H7w.out.back 1).drewN n)).mono (by
                  rintro e w' ⟨⟨b, rfl, hb⟩, m, rfl⟩
                  exact ⟨by rw [hb.2 HMd.out], m, rfl⟩)
                clear hrow7
                go_wp2
                go_quiet ((go_at_call 14; exact Calls.quiet_of (HSq.out _)))
                have HBx := Lib.hid (below_draws (Below.refl wk.heap.size wk) nq)
                go_wp2_with fail
                refine (isame_any P A2 pl pcap pl c2 (wk.drewN nq) (by unfold maxLen; omega) (by unfold maxLen; omega) ps ps HN.out.2.2.1 HN.out.2.2.1 (wk.drewN nq).heap.size ((HRf.out.2.2.below HBx.out).more HBx.out.size) ((HRf.out.1.below HBx.out).more HBx.out.size)).mono ?_
                rw [beq_self_eq_true]
                rintro e w8 ⟨rfl, q8, rfl⟩
                have HB8 := Lib.hid (below_draws HBx.out q8)
                generalize (wk.drewN nq).drewN q8 = w8 at *
                go_wp2_with fail
                refine (groups_any A len cap l w8 HN.out.1 (by omega) HN.out.2.1 ((HRf.out.2.1.below HB8.out).more HB8.out.size)).mono ?_
                rintro e w9 ⟨V9, L9, rfl, hm9, hO9, hb9⟩
                obtain ⟨A9, c9, rfl⟩ := own_slice hO9.row
                have HB9 := Lib.hid (bthen HB8.out hb9)
                have hl9 : L9.length = n6 := by
                  have h := congrArg List.length (hm9.trans HM7.out.symm)
                  rw [List.length_map, List.length_map, HL6.out.2] at h
                  exact h
                have HSm := Lib.hid (rgsame_any A9 (some ⟨g7, 0, none⟩) n6 c9 n6 c7 w9 (by omega) (by omega) L9 L7 hl9 HL6.out.2 (fun x hx => Nat.le_trans (gmap_ch hm9 x hx) (by rw [HN.out.1]; omega)) (fun x hx => Nat.le_trans (HC7.out x hx) (by decide)) w9.heap.size hO9.rd (H7w.out.on HB9.out))
                rw [hl9]
                have HMe := Lib.hid (hm9.trans HM7.out.symm)
                clear hm9 hO9 hb9 hl9
                go_wp2_with fail
                refine HSm.out.mono ?_
                rintro e w10 ⟨⟨b, rfl, hb⟩, q10, rfl⟩
                obtain rfl : b = true := hb.2 HMe.out
                have HBz := Lib.hid (bthen HB2.out (bthen HBk.out (below_draws HB9.out q10)))
                clear hb HSm
                go_wp2
                go_ret
                exact ⟨rfl, HBz.out⟩
              · have hq1 : decide ((1 : Int) < (n6 : Int)) = false := by simp; omega
                have hq2 : decide (1 < n6) = false := by simp; omega
                have H7w := Lib.hid (HG.out.2.2.2.2.1.rd)
                go_wp2
                go_quiet (fail)
                have HBx := Lib.hid (below_draws (Below.refl wk.heap.size wk) nq)
                go_wp2_with fail
                refine (isame_any P A2 pl pcap pl c2 (wk.drewN nq) (by unfold maxLen; omega) (by unfold maxLen; omega) ps ps HN.out.2.2.1 HN.out.2.2.1 (wk.drewN nq).heap.size ((HRf.out.2.2.below HBx.out).more HBx.out.size) ((HRf.out.1.below HBx.out).more HBx.out.size)).mono ?_
                rw [beq_self_eq_true]
                rintro e w8 ⟨rfl, q8, rfl⟩
                have HB8 := Lib.hid (below_draws HBx.out q8)
                generalize (wk.drewN nq).drewN q8 = w8 at *
                go_wp2_with fail
                refine (groups_any A len cap l w8 HN.out.1 (by omega) HN.out.2.1 ((HRf.out.2.1.below HB8.out).more HB8.out.size)).mono ?_
                rintro e w9 ⟨V9, L9, rfl, hm9, hO9, hb9⟩
                obtain ⟨A9, c9, rfl⟩ := own_slice hO9.row
                have HB9 := Lib.hid (bthen HB8.out hb9)
                have hl9 : L9.length = n6 := by
                  have h := congrArg List.length (hm9.trans HM7.out.symm)
                  rw [List.length_map, List.length_map, HL6.out.2] at h
                  exact h
                have HSm := Lib.hid (rgsame_any A9 A7 n6 c9 n6 c7 w9 (by omega) (by omega) L9 L7 hl9 HL6.out.2 (fun x hx => Nat.le_trans (gmap_ch hm9 x hx) (by rw [HN.out.1]; omega)) (fun x hx => Nat.le_trans (HC7.out x hx) (by decide)) w9.heap.size hO9.rd (H7w.out.on HB9.out))
                rw [hl9]
                have HMe := Lib.hid (hm9.trans HM7.out.symm)
                clear hm9 hO9 hb9 hl9
                go_wp2_with fail
                refine HSm.out.mono ?_
                rintro e w10 ⟨⟨b, rfl, hb⟩, q10, rfl⟩
                obtain rfl : b = true := hb.2 HMe.out
                have HBz := Lib.hid (bthen HB2.out (bthen HBk.out (below_draws HB9.out q10)))
                clear hb HSm
                go_wp2
                go_ret
                exact ⟨rfl, HBz.out⟩

    ·
      go_wp2_with fail
      refine (QW.out _).mono ?_
      rintro e w9 ⟨rfl, hb9⟩
      have H9 := Lib.hid (bthen HB1.out hb9)
      clear hb9
      go_wp2
      go_ret
      exact ⟨rfl, H9.out⟩

  ·
    go_wp2_with fail
    refine (QW.out _).mono ?_
    rintro e w9 ⟨rfl, hb9⟩
    have H9 := Lib.hid (bthen HB1.out hb9)
    clear hb9
    go_wp2
    go_ret
    exact ⟨rfl, H9.out⟩

end Go.Proofs.Ytkbgogofedppgaa

/-
  The law Whole of layer 15.
-/
import Derived.Test.YtkbgogofedppgaaRoI
import Derived.Test.YtkbgogofedppgaaRoH
import Derived.Test.YtkbgogofedppgaaFoOp
namespace Go.Proofs.Ytkbgogofedppgaa
open Go.RowKit Word Rec Scan Roll Leaf
set_option linter.unusedVariables false

theorem fo_front {w : World} {B : Nat} {A : Option Addr} {l : List Fo} (k : Nat) (h : Rd w B A (fls l)) : Rd w B A (fls (l.take k)) := by
  have e : fls l = fls (l.take k) ++ fls (l.drop k) := by rw [← fls_append, List.take_append_drop]
  have h2 : fls (l.take k) = (fls l).take (fls (l.take k)).length := by rw [e, List.take_left]
  rw [h2]
  exact h.front
theorem fo_front_in {l : List Fo} (k : Nat) (h : ∀ f ∈ l, FIn f) : ∀ f ∈ l.take k, FIn f := fun f hf => h f (List.mem_of_mem_take hf)
theorem fo_kind {w : World} {B k : Nat} {A : Option Addr} {l : List Fo} {f : Fo} {m : Nat} (hr : Rd w B A (fls l)) (hin : ∀ f ∈ l, FIn f) (hk : l[k]? = some f) (hm : m = 38) :
    ∃ ad, A = some ad ∧ ad.block < B ∧ w.cell? ⟨(ad.add (k * m)).block, (ad.add (k * m)).off + 1, none⟩ = some (.int .i64 f.r.kind) := by
  obtain ⟨ad, rfl, hb⟩ := fo_some hr hin hk
  subst hm
  have e : (⟨(ad.add (k * 38)).block, (ad.add (k * 38)).off + 1, none⟩ : Addr) = (ad.add (k * 38)).add 1 := by simp [Addr.add]
  exact ⟨ad, rfl, hb, by rw [e]; exact fo_cell hr hin hk 1 _ rfl⟩
theorem gmap_len {L : List Gv} {l : List Fo} (h : L.map Gv.g = groups l) : L.length ≤ l.length := by
  have := (groups_len l).1
  rw [← h, List.length_map] at this
  exact this
theorem gmap_ch {L : List Gv} {l : List Fo} (h : L.map Gv.g = groups l) : ∀ x ∈ L, x.g.ch.length ≤ l.length := fun x hx =>
  Nat.le_trans (ch_len (l := groups l) (g := x.g) (by rw [← h]; exact List.mem_map_of_mem hx)) (chs_len l)
set_option maxRecDepth 100000 in
set_option maxHeartbeats 4000000 in
theorem rolaw_whole (A : Option Addr) (len cap : Nat) (l : List Fo) (c : Nat) (P : Option Addr) (pl pcap : Nat) (ps : List Int) (w : World) (hlc : len ≤ cap) (hcm : cap ≤ maxLen) (hl : l.length = len) (hin : ∀ f ∈ l, FIn f) (hr : Rd w w.heap.size A (fls l)) (hc : c < 256) (hpm : pl ≤ maxLen) (hpl : ps.length = pl) (hpr : Rd w w.heap.size P (is ps)) :
    Calls Try.prog 4 #[.slice A len cap, .int .u8 c, .slice P pl pcap] w fun e w' => e = .returned (.bool true) ∧ Below w.heap.size w w' := by
  have QW := Lib.hid fun w' => awake_any w'
  have HN := Lib.hid (And.intro hl (And.intro hin (And.intro hr (And.intro hpl hpr))))
  unfold maxLen at hcm hpm
  clear hl hr hpl hin hpr
  go_enter Try.func4, Try.ntmps4
  go_wp2_with fail
  refine (QW.out _).mono ?_
  rintro e w1 ⟨rfl, hB1⟩
  have HB1 := Lib.hid hB1
  have HF1 := Lib.hid ((HN.out.2.2.1.below hB1).more hB1.size)
  have HP1 := Lib.hid ((HN.out.2.2.2.2.below hB1).more hB1.size)
  clear hB1
  by_cases q1 : (len : Int) ≤ 100
  · by_cases q2 : (pl : Int) ≤ 100
    · obtain ⟨k, hkl, hk⟩ : ∃ k : Nat, k ≤ len ∧ (c : Int).tmod ((len : Int) + 1) = (k : Int) := ⟨c % (len + 1), by have := Nat.mod_lt c (show 0 < len + 1 by omega); omega, by
        rw [Int.tmod_eq_emod_of_nonneg (by omega)]
        push_cast
        rfl⟩
      have hki : (k : Int) ≤ (len : Int) := by omega
      go_wp2_with fail
      refine (groups_any A len cap l w1 HN.out.1 (by omega) HN.out.2.1 HF1.out).mono ?_
      rintro e w2 ⟨V2, L2, rfl, hm2, hO2, hb2⟩
      obtain ⟨A2, c2, rfl⟩ := own_slice hO2.row
      have HM2 := Lib.hid hm2
      have HO2 := Lib.hid hO2
      have HB2 := Lib.hid hb2
      clear hm2 hO2 hb2
      go_wp2_with fail
      refine (groups_any A k cap (l.take k) w2 (by rw [List.length_take, HN.out.1]; omega) (by omega) (fo_front_in k HN.out.2.1) (fo_front k ((HF1.out.below HB2.out).more HB2.out.size))).mono ?_
      rintro e w3 ⟨V3, L3, rfl, hm3, hO3, hb3⟩
      obtain ⟨A3, c3, rfl⟩ := own_slice hO3.row
      have HCut := Lib.hid (show L3.length ≤ L2.length ∧ L3.map Gv.g = (L2.take L3.length).map Gv.g by
        have h := groups_cut l k
        rw [← hm3, ← HM2.out, List.length_map, List.length_map] at h
        exact ⟨h.2, by rw [List.map_take]; exact h.1⟩)
      have HM3 := Lib.hid hm3
      have HG3 := Lib.hid hO3.rd
      have HB3 := Lib.hid hb3
      have hc2 := (own_cap HO2.out.row).1
      have hn2 := gmap_len HM2.out
      rw [HN.out.1] at hn2
      have hn3 := HCut.out.1
      clear hm3 hO3 hb3
      generalize hl2 : L2.length = n2 at *
      generalize hl3 : L3.length = n3 at *
      have HL2 := Lib.hid hl2
      have HL3 := Lib.hid hl3
      clear hl2 hl3
      have hn3i : decide (n2 < n3) = false := by simp; omega
      have hc2i : n3 ≤ c2 := by omega
      have HCc := Lib.hid (show (∀ x ∈ L3, x.g.ch.length ≤ 100000) ∧ ∀ x ∈ L2.take n3, x.g.ch.length ≤ 100000 from ⟨fun x hx => by
          have h1 := gmap_ch HM3.out x hx
          have h2 := HN.out.1
          rw [List.length_take] at h1
          omega, fun x hx => by
          have h1 := gmap_ch HM2.out x (List.mem_of_mem_take hx)
          have h2 := HN.out.1
          omega⟩)
      have HSm := Lib.hid (rgsame_any A3 A2 n3 c3 n3 c2 w3 (by omega) (by omega) L3 (L2.take n3) HL3.out (by rw [List.length_take, HL2.out]; omega) HCc.out.1 HCc.out.2 w3.heap.size HG3.out ((HO2.out.rd.on HB3.out).front n3))
      go_wp2_with fail
      refine HSm.out.mono ?_
      rintro e w4 ⟨⟨b, rfl, hb⟩, q, rfl⟩
      obtain rfl : b = true := hb.2 HCut.out.2
      have HB4 := Lib.hid fun w' (h : Below (w3.drewN q).heap.size (w3.drewN q) w') => bthen (below_draws HB3.out q) h
      clear hb HSm
      generalize w3.drewN q = w4 at *
      by_cases q3 : k < len
      · obtain ⟨f, hf⟩ : ∃ f, l[k]? = some f := ⟨_, List.getElem?_eq_getElem (by rw [HN.out.1]; exact q3)⟩
        obtain ⟨m, hm38, hsz⟩ := big_size (P := Try.prog) (t := 41) (s := 38) (by kernel_rfl)
        have hm0 : ¬ m = 0 := by omega
        have hF4 := (HF1.out.below (bthen HB2.out (HB4.out w4 (Below.refl _ _)))).more (bthen HB2.out (HB4.out w4 (Below.refl _ _))).size
        obtain ⟨af, rfl, hfb, kc⟩ := fo_kind (m := m) hF4 HN.out.2.1 hf hm38
        have HF4 := Lib.hid hF4
        have HM38 := Lib.hid hm38
        have hk1i : (k : Int) < (len : Int) := by omega
        have HT := Lib.hid (take_at hf)
        clear hf hF4 hm38
        by_cases q4 : f.r.kind = 3
        · have hkb : (f.r.kind != 3) = false := by simp [q4]
          clear q4
          have HG5 := Lib.hid (HO2.out.rd.on (HB4.out w4 (Below.refl _ _)))
          have HP5 := Lib.hid ((HP1.out.below (bthen HB2.out (HB4.out w4 (Below.refl _ _)))).more (bthen HB2.out (HB4.out w4 (Below.refl _ _))).size)
          have HBL := Lib.hid (bthen HB1.out (bthen HB2.out (HB4.out w4 (Below.refl _ _))))
          go_wp2_with fail
          go_loopw [10, 11] (fun pv i wr => ∃ (j : Nat) (Ap : Option Addr) (cp : Nat), j ≤ n2 ∧ i = .int .i64 j ∧ pv = .slice Ap pl cp ∧ Rd wr wr.heap.size Ap (is (doS ps ((L2.map Gv.g).take j))) ∧ Below w4.heap.size w4 wr) (fun _ i _ => n2 - (intOf i).toNat)
          case atStart => exact ⟨0, P, pcap, by omega, rfl, rfl, HP5.out, Below.refl _ _⟩
          case round =>
            obtain ⟨j, Ap, cp, hj, rfl, rfl, hrp, hbj⟩ := hrel
            have HJ := Lib.hid (And.intro hrp hbj)
            clear hrp hbj
            by_cases hjl : j < n2
            · obtain ⟨x, hx⟩ : ∃ x, L2[j]? = some x := ⟨_, List.getElem?_eq_getElem (by rw [HL2.out]; exact hjl)⟩
              have hgj := HG5.out.on HJ.out.2
              obtain ⟨ag, rfl, hab, _, _, _⟩ := gv_at hgj.1 hx
              have HX : Hid (GRd wr wr.heap.size (some (ag.add (j * 3))) [x]) := Lib.hid (by
                have h := (hgj.back j).front 1
                obtain ⟨hjl', rfl⟩ := List.getElem?_eq_some_iff.1 hx
                rwa [List.drop_eq_getElem_cons hjl', List.take_succ_cons, List.take_zero] at h)
              have HD := Lib.hid (show doS (doS ps ((L2.map Gv.g).take j)) ([x].map Gv.g) = doS ps ((L2.map Gv.g).take (j + 1)) from (doS_take (P := ps) (map_g_at hx)).symm)
              have HXc := Lib.hid (gmap_ch HM2.out x (List.mem_of_getElem? hx))
              have hji : (j : Int) < (n2 : Int) := by omega
              have hj1 : IntKind.i64.wrap ((j : Int) + 1) = (j : Int) + 1 := IntWalk.i64_in _ (by omega)
              have hjc : ¬ c2 = j := by omega
              clear hgj hx hab
              go_wp2_with fail
              refine (do_any Ap pl cp (doS ps ((L2.map Gv.g).take j)) (some (ag.add (j * 3))) 1 (c2 - j) [x] wr (by rw [doS_length, HN.out.2.2.2.1]) (by omega) rfl (by decide) (by
                intro y hy
                rw [List.mem_singleton.1 hy]
                have h1 := HXc.out
                have h2 := HN.out.1
                unfold maxLen
                omega) HJ.out.1 HX.out).mono ?_
              rintro e w7 ⟨V7, rfl, hown7, hb7⟩
              obtain ⟨A7, c7, rfl⟩ := own_slice hown7
              rw [HD.out] at hown7
              have H7 := Lib.hid (And.intro (Rd.own hown7) (bthen HJ.out.2 hb7))
              clear hown7 hb7
              go_wp2
              go_roundw
              case rel => exact ⟨j + 1, A7, c7, by omega, by go_num, rfl, H7.out.1, H7.out.2⟩
              case measure => first | (simp [intOf]; done) | (simp [intOf]; omega)
            · obtain rfl : n2 = j := by omega
              have HJ2 : Hid (Rd wr wr.heap.size Ap (is (doS ps (L2.map Gv.g)))) := Lib.hid (by
                have h := HJ.out.1
                rwa [List.take_of_length_le (l := L2.map Gv.g) (by rw [List.length_map, HL2.out]; exact Nat.le_refl _)] at h)
              go_wp2_with fail
              refine (do_any P pl pcap ps A2 n2 c2 L2 wr HN.out.2.2.2.1 (by omega) HL2.out (by unfold maxLen; have := HL2.out; omega) (fun x hx => by
                have h1 := gmap_ch HM2.out x hx
                have h2 := HN.out.1
                unfold maxLen
                omega) ((HP5.out.below HJ.out.2).more HJ.out.2.size) (HG5.out.on HJ.out.2)).mono ?_
              rintro e w7 ⟨V7, rfl, hown7, hb7⟩
              obtain ⟨A7, c7, rfl⟩ := own_slice hown7
              have HB7 := Lib.hid (bthen HJ.out.2 hb7)
              have HS := Lib.hid (isame_any Ap A7 pl cp pl c7 w7 (by unfold maxLen; omega) (by unfold maxLen; omega) (doS ps (L2.map Gv.g)) (doS ps (L2.map Gv.g)) (by rw [doS_length, HN.out.2.2.2.1]) (by rw [doS_length, HN.out.2.2.2.1]) w7.heap.size ((HJ2.out.below hb7).more hb7.size) (Rd.own hown7))
              rw [beq_self_eq_true] at HS
              clear hown7 hb7
              go_wp2_with fail
              refine HS.out.mono ?_
              rintro e w8 ⟨rfl, q, rfl⟩
              have HB8 := Lib.hid (below_draws (bthen HBL.out HB7.out) q)
              clear HS
              go_wp2
              go_ret
              exact ⟨rfl, HB8.out⟩

        · have hkb : (f.r.kind != 3) = true := by simp [q4]
          have HK := Lib.hid q4
          clear q4
          go_wp2_with fail
          refine (groups_any (some af) (k + 1) cap (l.take (k + 1)) w4 (by rw [List.length_take, HN.out.1]; omega) (by omega) (fo_front_in (k + 1) HN.out.2.1) (fo_front (k + 1) HF4.out)).mono ?_
          rintro e w5 ⟨V5, L5, rfl, hm5, hO5, hb5⟩
          obtain ⟨A5, c5, rfl⟩ := own_slice hO5.row
          obtain hl5 : L5.length = n3 := by
            have h : L5.map Gv.g = L3.map Gv.g := by rw [hm5, HM3.out, HT.out, groups_no HK.out]
            have h := congrArg List.length h
            rw [List.length_map, List.length_map, HL3.out] at h
            exact h
          rw [hl5]
          have hnn : ((n3 : Int) != (n3 : Int)) = false := by simp
          have hb5b := hb5
          have HG5 := Lib.hid (HO2.out.rd.on (HB4.out w5 hb5b))
          have HP5 := Lib.hid ((HP1.out.below (bthen HB2.out (HB4.out w5 hb5b))).more (bthen HB2.out (HB4.out w5 hb5b)).size)
          have HBL := Lib.hid (bthen HB1.out (bthen HB2.out (HB4.out w5 hb5b)))
          clear hl5 hm5 hO5 hb5
          clear hb5b
          go_wp2_with fail
          go_loopw [10, 11] (fun pv i wr => ∃ (j : Nat) (Ap : Option Addr) (cp : Nat), j ≤ n2 ∧ i = .int .i64 j ∧ pv = .slice Ap pl cp ∧ Rd wr wr.heap.size Ap (is (doS ps ((L2.map Gv.g).take j))) ∧ Below w5.heap.size w5 wr) (fun _ i _ => n2 - (intOf i).toNat)
          case atStart => exact ⟨0, P, pcap, by omega, rfl, rfl, HP5.out, Below.refl _ _⟩
          case round =>
            obtain ⟨j, Ap, cp, hj, rfl, rfl, hrp, hbj⟩ := hrel
            have HJ := Lib.hid (And.intro hrp hbj)
            clear hrp hbj
            by_cases hjl : j < n2
            · obtain ⟨x, hx⟩ : ∃ x, L2[j]? = some x := ⟨_, List.getElem?_eq_getElem (by rw [HL2.out]; exact hjl)⟩
              have hgj := HG5.out.on HJ.out.2
              obtain ⟨ag, rfl, hab, _, _, _⟩ := gv_at hgj.1 hx
              have HX : Hid (GRd wr wr.heap.size (some (ag.add (j * 3))) [x]) := Lib.hid (by
                have h := (hgj.back j).front 1
                obtain ⟨hjl', rfl⟩ := List.getElem?_eq_some_iff.1 hx
                rwa [List.drop_eq_getElem_cons hjl', List.take_succ_cons, List.take_zero] at h)
              have HD := Lib.hid (show doS (doS ps ((L2.map Gv.g).take j)) ([x].map Gv.g) = doS ps ((L2.map Gv.g).take (j + 1)) from (doS_take (P := ps) (map_g_at hx)).symm)
              have HXc := Lib.hid (gmap_ch HM2.out x (List.mem_of_getElem? hx))
              have hji : (j : Int) < (n2 : Int) := by omega
              have hj1 : IntKind.i64.wrap ((j : Int) + 1) = (j : Int) + 1 := IntWalk.i64_in _ (by omega)
              have hjc : ¬ c2 = j := by omega
              clear hgj hx hab
              go_wp2_with fail
              refine (do_any Ap pl cp (doS ps ((L2.map Gv.g).take j)) (some (ag.add (j * 3))) 1 (c2 - j) [x] wr (by rw [doS_length, HN.out.2.2.2.1]) (by omega) rfl (by decide) (by
                intro y hy
                rw [List.mem_singleton.1 hy]
                have h1 := HXc.out
                have h2 := HN.out.1
                unfold maxLen
                omega) HJ.out.1 HX.out).mono ?_
              rintro e w7 ⟨V7, rfl, hown7, hb7⟩
              obtain ⟨A7, c7, rfl⟩ := own_slice hown7
              rw [HD.out] at hown7
              have H7 := Lib.hid (And.intro (Rd.own hown7) (bthen HJ.out.2 hb7))
              clear hown7 hb7
              go_wp2
              go_roundw
              case rel => exact ⟨j + 1, A7, c7, by omega, by go_num, rfl, H7.out.1, H7.out.2⟩
              case measure => first | (simp [intOf]; done) | (simp [intOf]; omega)
            · obtain rfl : n2 = j := by omega
              have HJ2 : Hid (Rd wr wr.heap.size Ap (is (doS ps (L2.map Gv.g)))) := Lib.hid (by
                have h := HJ.out.1
                rwa [List.take_of_length_le (l := L2.map Gv.g) (by rw [List.length_map, HL2.out]; exact Nat.le_refl _)] at h)
              go_wp2_with fail
              refine (do_any P pl pcap ps A2 n2 c2 L2 wr HN.out.2.2.2.1 (by omega) HL2.out (by unfold maxLen; have := HL2.out; omega) (fun x hx => by
                have h1 := gmap_ch HM2.out x hx
                have h2 := HN.out.1
                unfold maxLen
                omega) ((HP5.out.below HJ.out.2).more HJ.out.2.size) (HG5.out.on HJ.out.2)).mono ?_
              rintro e w7 ⟨V7, rfl, hown7, hb7⟩
              obtain ⟨A7, c7, rfl⟩ := own_slice hown7
              have HB7 := Lib.hid (bthen HJ.out.2 hb7)
              have HS := Lib.hid (isame_any Ap A7 pl cp pl c7 w7 (by unfold maxLen; omega) (by unfold maxLen; omega) (doS ps (L2.map Gv.g)) (doS ps (L2.map Gv.g)) (by rw [doS_length, HN.out.2.2.2.1]) (by rw [doS_length, HN.out.2.2.2.1]) w7.heap.size ((HJ2.out.below hb7).more hb7.size) (Rd.own hown7))
              rw [beq_self_eq_true] at HS
              clear hown7 hb7
              go_wp2_with fail
              refine HS.out.mono ?_
              rintro e w8 ⟨rfl, q, rfl⟩
              have HB8 := Lib.hid (below_draws (bthen HBL.out HB7.out) q)
              clear HS
              go_wp2
              go_ret
              exact ⟨rfl, HB8.out⟩

      · obtain rfl : len = k := by omega
        have HG5 := Lib.hid (HO2.out.rd.on (HB4.out w4 (Below.refl _ _)))
        have HP5 := Lib.hid ((HP1.out.below (bthen HB2.out (HB4.out w4 (Below.refl _ _)))).more (bthen HB2.out (HB4.out w4 (Below.refl _ _))).size)
        have HBL := Lib.hid (bthen HB1.out (bthen HB2.out (HB4.out w4 (Below.refl _ _))))
        go_wp2_with fail
        go_loopw [10, 11] (fun pv i wr => ∃ (j : Nat) (Ap : Option Addr) (cp : Nat), j ≤ n2 ∧ i = .int .i64 j ∧ pv = .slice Ap pl cp ∧ Rd wr wr.heap.size Ap (is (doS ps ((L2.map Gv.g).take j))) ∧ Below w4.heap.size w4 wr) (fun _ i _ => n2 - (intOf i).toNat)
        case atStart => exact ⟨0, P, pcap, by omega, rfl, rfl, HP5.out, Below.refl _ _⟩
        case round =>
          obtain ⟨j, Ap, cp, hj, rfl, rfl, hrp, hbj⟩ := hrel
          have HJ := Lib.hid (And.intro hrp hbj)
          clear hrp hbj
          by_cases hjl : j < n2
          · obtain ⟨x, hx⟩ : ∃ x, L2[j]? = some x := ⟨_, List.getElem?_eq_getElem (by rw [HL2.out]; exact hjl)⟩
            have hgj := HG5.out.on HJ.out.2
            obtain ⟨ag, rfl, hab, _, _, _⟩ := gv_at hgj.1 hx
            have HX : Hid (GRd wr wr.heap.size (some (ag.add (j * 3))) [x]) := Lib.hid (by
              have h := (hgj.back j).front 1
              obtain ⟨hjl', rfl⟩ := List.getElem?_eq_some_iff.1 hx
              rwa [List.drop_eq_getElem_cons hjl', List.take_succ_cons, List.take_zero] at h)
            have HD := Lib.hid (show doS (doS ps ((L2.map Gv.g).take j)) ([x].map Gv.g) = doS ps ((L2.map Gv.g).take (j + 1)) from (doS_take (P := ps) (map_g_at hx)).symm)
            have HXc := Lib.hid (gmap_ch HM2.out x (List.mem_of_getElem? hx))
            have hji : (j : Int) < (n2 : Int) := by omega
            have hj1 : IntKind.i64.wrap ((j : Int) + 1) = (j : Int) + 1 := IntWalk.i64_in _ (by omega)
            have hjc : ¬ c2 = j := by omega
            clear hgj hx hab
            go_wp2_with fail
            refine (do_any Ap pl cp (doS ps ((L2.map Gv.g).take j)) (some (ag.add (j * 3))) 1 (c2 - j) [x] wr (by rw [doS_length, HN.out.2.2.2.1]) (by omega) rfl (by decide) (by
              intro y hy
              rw [List.mem_singleton.1 hy]
              have h1 := HXc.out
              have h2 := HN.out.1
              unfold maxLen
              omega) HJ.out.1 HX.out).mono ?_
            rintro e w7 ⟨V7, rfl, hown7, hb7⟩
            obtain ⟨A7, c7, rfl⟩ := own_slice hown7
            rw [HD.out] at hown7
            have H7 := Lib.hid (And.intro (Rd.own hown7) (bthen HJ.out.2 hb7))
            clear hown7 hb7
            go_wp2
            go_roundw
            case rel => exact ⟨j + 1, A7, c7, by omega, by go_num, rfl, H7.out.1, H7.out.2⟩
            case measure => first | (simp [intOf]; done) | (simp [intOf]; omega)
          · obtain rfl : n2 = j := by omega
            have HJ2 : Hid (Rd wr wr.heap.size Ap (is (doS ps (L2.map Gv.g)))) := Lib.hid (by
              have h := HJ.out.1
              rwa [List.take_of_length_le (l := L2.map Gv.g) (by rw [List.length_map, HL2.out]; exact Nat.le_refl _)] at h)
            go_wp2_with fail
            refine (do_any P pl pcap ps A2 n2 c2 L2 wr HN.out.2.2.2.1 (by omega) HL2.out (by unfold maxLen; have := HL2.out; omega) (fun x hx => by
              have h1 := gmap_ch HM2.out x hx
              have h2 := HN.out.1
              unfold maxLen
              omega) ((HP5.out.below HJ.out.2).more HJ.out.2.size) (HG5.out.on HJ.out.2)).mono ?_
            rintro e w7 ⟨V7, rfl, hown7, hb7⟩
            obtain ⟨A7, c7, rfl⟩ := own_slice hown7
            have HB7 := Lib.hid (bthen HJ.out.2 hb7)
            have HS := Lib.hid (isame_any Ap A7 pl cp pl c7 w7 (by unfold maxLen; omega) (by unfold maxLen; omega) (doS ps (L2.map Gv.g)) (doS ps (L2.map Gv.g)) (by rw [doS_length, HN.out.2.2.2.1]) (by rw [doS_length, HN.out.2.2.2.1]) w7.heap.size ((HJ2.out.below hb7).more hb7.size) (Rd.own hown7))
            rw [beq_self_eq_true] at HS
            clear hown7 hb7
            go_wp2_with fail
            refine HS.out.mono ?_
            rintro e w8 ⟨rfl, q, rfl⟩
            have HB8 := Lib.hid (below_draws (bthen HBL.out HB7.out) q)
            clear HS
            go_wp2
            go_ret
            exact ⟨rfl, HB8.out⟩

    · go_wp2_with fail
      refine (QW.out _).mono ?_
      rintro e w9 ⟨rfl, hb9⟩
      have H9 := Lib.hid (bthen HB1.out hb9)
      clear hb9
      go_wp2
      go_ret
      exact ⟨rfl, H9.out⟩
  · go_wp2_with fail
    refine (QW.out _).mono ?_
    rintro e w9 ⟨rfl, hb9⟩
    have H9 := Lib.hid (bthen HB1.out hb9)
    clear hb9
    go_wp2
    go_ret
    exact ⟨rfl, H9.out⟩
end Go.Proofs.Ytkbgogofedppgaa

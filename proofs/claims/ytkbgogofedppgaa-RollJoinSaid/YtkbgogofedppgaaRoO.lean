/-
  The law Join of layer 15.
-/
import Derived.Test.YtkbgogofedppgaaRoN
namespace Go.Proofs.Ytkbgogofedppgaa
open Go.RowKit Word Rec Scan Roll Leaf
set_option linter.unusedVariables false

theorem gch_kept {w w' : World} {L : List Gv} {b b' n s : Nat} {V : Value} {xs : List Value} (h : ∀ x ∈ L, w.ownsRow b 44 2 x.v x.g.ch.length (hls x.g.ch)) (hv : w.ownsRow b' 28 s V n xs) (hg : w.grownBy w' V.ownBlock) : ∀ x ∈ L, w'.ownsRow b 44 2 x.v x.g.ch.length (hls x.g.ch) :=
  fun x hx => row_kept (h x hx) hg fun k hk e => types_apart hv (h x hx) k e hk
theorem pend_end {l : List Fo} {p : Nat} {f : Fo} (hl : l.length = p + 1) (hf : l[p]? = some f) (hk : f.r.kind = 3) : pend l = [] := by
  have h := take_at hf
  rw [← hl, List.take_length] at h
  rw [h, pend_commit hk]
set_option maxRecDepth 100000 in
set_option maxHeartbeats 4000000 in
/-- behind the conditions -/
theorem rolaw_join (A : Option Addr) (n cap : Nat) (la : List Fo) (B : Option Addr) (m capB : Nat) (lb : List Fo) (w : World) (hnc : n ≤ maxLen) (hmc : m ≤ maxLen) (hla : la.length = n) (hia : ∀ f ∈ la, FIn f) (hra : Rd w w.heap.size A (fls la)) (hlb : lb.length = m) (hib : ∀ f ∈ lb, FIn f) (hrb : Rd w w.heap.size B (fls lb)) :
    Calls Try.prog 6 #[.slice A n cap, .slice B m capB] w fun e w' => e = .returned (.bool true) ∧ Below w.heap.size w w' := by
  have QW := Lib.hid fun w' => awake_any w'
  have HN := Lib.hid (And.intro hla (And.intro hia (And.intro hlb hib)))
  have HR := Lib.hid (And.intro hra hrb)
  have HLa := Lib.hid (show (fls la).length = n * 38 by rw [fls_length hia, hla])
  have HLb := Lib.hid (show (fls lb).length = m * 38 by rw [fls_length hib, hlb])
  have HIab : Hid (∀ f ∈ la ++ lb, FIn f) := Lib.hid (fun f hf => (List.mem_append.1 hf).elim (hia f) (hib f))
  unfold maxLen at hnc hmc
  clear hla hia hra hlb hib hrb
  go_enter Try.func6, Try.ntmps6
  go_wp2_with fail
  refine (QW.out _).mono ?_
  rintro e w1 ⟨rfl, hB1⟩
  have HB1 := Lib.hid hB1
  have HF1 := Lib.hid (And.intro ((HR.out.1.below hB1).more hB1.size) ((HR.out.2.below hB1).more hB1.size))
  clear hB1
  by_cases q1 : (n : Int) ≤ 60
  · by_cases q2 : (m : Int) ≤ 60
    · by_cases q3 : 0 < n
      · obtain ⟨p, hp⟩ : ∃ p, n = p + 1 := ⟨n - 1, by omega⟩
        obtain ⟨f, hf⟩ : ∃ f, la[p]? = some f := ⟨_, List.getElem?_eq_getElem (by rw [HN.out.1]; omega)⟩
        obtain ⟨mz, hm38, hsz⟩ := big_size (P := Try.prog) (t := 41) (s := 38) (by kernel_rfl)
        have hm0 : ¬ mz = 0 := by omega
        obtain ⟨af, rfl, hfb, kc⟩ := fo_kind (m := mz) HF1.out.1 HN.out.2.1 hf hm38
        have hsub : ((n : Int) - 1) = (p : Int) := by omega
        have hpi : (p : Int) < (n : Int) := by omega
        have hpn : p < n := by omega
        have HPk := Lib.hid (fun h => pend_end (p := p) (by rw [HN.out.1, hp]) hf h : f.r.kind = 3 → pend la = [])
        clear hf hm38 hp
        by_cases q4 : f.r.kind = 3
        · have hkb : (f.r.kind != 3) = false := by simp [q4]
          have HPn := Lib.hid (HPk.out q4)
          clear q4 HPk
          go_wp2_with (first
            | (at_builtin; refine wpList_append_copy _ rfl _ _ _ rfl 41 _ 38 80 elemF rfl (some af) n cap rfl (fls la) HLa.out HF1.out.1 (fls_one la) (by simp only [maxLen]; omega) (by omega) ?_; go_loud (intro A2 c2 w2 hown2 hb2; have H2 := Lib.hid (And.intro hown2 hb2); clear hown2 hb2))
            | (at_builtin; go_loud (refine wpList_append_rd _ rfl _ _ _ rfl w1.heap.size 41 _ 38 80 elemF (.slice A2 n c2) n (fls la) rfl H2.out.1 w2.heap.size B m capB (fls lb) rfl HLb.out ((HF1.out.2.below H2.out.2).more H2.out.2.size) (fls_one lb) (by simp only [maxLen]; omega) (by omega) H2.out.2.size ?_); go_loud (intro V3 w3 hown3 hg3 _; have H3 := Lib.hid (And.intro hown3 (H2.out.2.grown hg3 H2.out.2.size fun g hg => (H2.out.1.lt g hg).1)); clear hown3 hg3))
            | fail)
          obtain ⟨A3, c3, rfl⟩ := own_slice H3.out.1
          have HAB : Hid (Rd w3 w3.heap.size A3 (fls (la ++ lb))) := Lib.hid (by rw [fls_append]; exact Rd.own H3.out.1)
          have hnm : n + m ≤ 1000 := by omega
          have HNM := Lib.hid (show (la ++ lb).length = n + m by rw [List.length_append, HN.out.1, HN.out.2.2.1])
          have HB3 := Lib.hid H3.out.2
          clear H2 H3
          generalize n + m = nm at *
          refine (groups_any A3 nm c3 (la ++ lb) w3 HNM.out hnm HIab.out HAB.out).mono ?_
          rintro e w4 ⟨V4, L4, rfl, hm4, hO4, hb4⟩
          obtain ⟨A4, c4, rfl⟩ := own_slice hO4.row
          have HO4 := Lib.hid hO4
          have HM4 := Lib.hid (hm4.trans (groups_join lb HPn.out))
          have HB4 := Lib.hid (bthen HB3.out hb4)
          have HF4 := Lib.hid (And.intro ((HF1.out.1.below HB4.out).more HB4.out.size) ((HF1.out.2.below HB4.out).more HB4.out.size))
          have hl4 := gmap_len hm4
          have hc4 := gmap_ch hm4
          rw [HNM.out] at hl4
          have HC4 := Lib.hid (fun x hx => Nat.le_trans (hc4 x hx) (by rw [HNM.out]; exact hnm) : ∀ x ∈ L4, x.g.ch.length ≤ 1000)
          clear hO4 hm4 hb4 hc4
          go_wp2_with fail
          have HLit : Hid ((w4.alloc (.cells #[] 28)).ownsRow w4.heap.size 28 3 (.slice (some ⟨w4.heap.size, 0, none⟩) 0 0) 0 [] ∧ Below w4.heap.size w4 (w4.alloc (.cells #[] 28))) := Lib.hid ⟨World.ownsRow_lit w4 #[] 0 (Nat.le_refl _) (by decide) (by simp), (Below.refl _ _).alloc (Nat.le_refl _) _⟩
          generalize World.alloc _ _ = w5 at HLit ⊢
          refine (groups_any (some af) n cap la w5 HN.out.1 (by omega) HN.out.2.1 ((HF4.out.1.below HLit.out.2).more HLit.out.2.size)).mono ?_
          rintro e w6 ⟨V6, L6, rfl, hm6, hO6, hb6⟩
          obtain ⟨A6, c6, rfl⟩ := own_slice hO6.row
          have HM6 := Lib.hid hm6
          have HR6 := Lib.hid (Rd.own hO6.row)
          have HE6 := Lib.hid hO6.each
          have HLit6 := Lib.hid (own_below HLit.out.1 hb6)
          have HB6 := Lib.hid (bthen HLit.out.2 hb6)
          have hl6 := gmap_len hm6
          have HC6 := Lib.hid (gmap_ch hm6)
          rw [HN.out.1] at hl6
          clear hm6 hO6 hb6
          generalize hn6 : L6.length = n6 at *
          have HL6 := Lib.hid (show (gvs L6).length = n6 * 3 by rw [gvs_length, hn6])
          have HN6 := Lib.hid hn6
          clear hn6
          go_wp2_with (first
            | (at_builtin; go_loud (refine wpList_append_rd _ rfl _ _ _ rfl w4.heap.size 28 _ 3 40 elemG (.slice (some ⟨w4.heap.size, 0, none⟩) 0 0) 0 [] rfl HLit6.out w6.heap.size A6 n6 c6 (gvs L6) rfl HL6.out HR6.out (gvs_one L6) (by simp only [maxLen]; omega) (by omega) HB6.out.size ?_); go_loud (intro V7 w7 hown7 hg7 _; have H7 := Lib.hid (And.intro hown7 (HB6.out.grown hg7 HB6.out.size fun g hg => (HLit6.out.lt g hg).1)); have HE7 := Lib.hid (gch_kept HE6.out HLit6.out hg7); clear hown7 hg7 HLit6))
            | fail)
          obtain ⟨A7, c7, rfl⟩ := own_slice H7.out.1
          have H7' : Hid (w7.ownsRow w4.heap.size 28 3 (.slice A7 (0 + n6) c7) (0 + n6) (gvs L6) ∧ Below w4.heap.size w4 w7) := Lib.hid (by
            have h := H7.out
            rwa [List.nil_append] at h)
          clear H7
          rw [Nat.zero_add] at H7'
          simp only [Nat.zero_add]
          refine (groups_any B m capB lb w7 HN.out.2.2.1 (by omega) HN.out.2.2.2 ((HF4.out.2.below H7'.out.2).more H7'.out.2.size)).mono ?_
          rintro e w8 ⟨V8, L8, rfl, hm8, hO8, hb8⟩
          obtain ⟨A8, c8, rfl⟩ := own_slice hO8.row
          have HM8 := Lib.hid hm8
          have HR8 := Lib.hid (Rd.own hO8.row)
          have HE8 := Lib.hid hO8.each
          have HV8 := Lib.hid (And.intro (own_below H7'.out.1 hb8) (H7'.out.2.trans (hb8.mono H7'.out.2.size)))
          have HEa := Lib.hid (fun x hx => own_below (HE7.out x hx) hb8)
          have hl8 := gmap_len hm8
          have HC8 := Lib.hid (gmap_ch hm8)
          rw [HN.out.2.2.1] at hl8
          clear hm8 hO8 hb8
          generalize hn8 : L8.length = n8 at *
          have HL8 := Lib.hid (show (gvs L8).length = n8 * 3 by rw [gvs_length, hn8])
          have HN8 := Lib.hid hn8
          clear hn8
          go_wp2_with (first
            | (at_builtin; go_loud (refine wpList_append_rd _ rfl _ _ _ rfl w4.heap.size 28 _ 3 40 elemG (.slice A7 n6 c7) n6 (gvs L6) rfl HV8.out.1 w8.heap.size A8 n8 c8 (gvs L8) rfl HL8.out HR8.out (gvs_one L8) (by simp only [maxLen]; omega) (by omega) HV8.out.2.size ?_); go_loud (intro V9 w9 hown9 hg9 _; have H9 := Lib.hid (And.intro hown9 (HV8.out.2.grown hg9 HV8.out.2.size fun g hg => (HV8.out.1.lt g hg).1)); have HEa9 := Lib.hid (gch_kept HEa.out HV8.out.1 hg9); have HEb9 := Lib.hid (gch_kept HE8.out HV8.out.1 hg9); clear hown9 hg9))
            | fail)
          obtain ⟨A9, c9, rfl⟩ := own_slice H9.out.1
          have HG9 : Hid (GRd w9 w9.heap.size A9 (L6 ++ L8)) := Lib.hid ⟨by rw [gvs_append]; exact Rd.own H9.out.1, fun x hx => by
            rcases List.mem_append.1 hx with hx | hx
            · exact Rd.own (HEa9.out x hx)
            · exact Rd.own (HEb9.out x hx)⟩
          have HB9 := Lib.hid H9.out.2
          have HM9 := Lib.hid (show L4.map Gv.g = (L6 ++ L8).map Gv.g by rw [HM4.out, List.map_append, HM6.out, HM8.out])
          have HL9 := Lib.hid (show (L6 ++ L8).length = n6 + n8 by rw [List.length_append, HN6.out, HN8.out])
          have HC9 : Hid (∀ x ∈ L6 ++ L8, x.g.ch.length ≤ 100000) := Lib.hid (fun x hx => by
            have h1 := HN.out.1
            have h2 := HN.out.2.2.1
            rcases List.mem_append.1 hx with hx | hx
            · have := HC6.out x hx
              omega
            · have := HC8.out x hx
              omega)
          have hn68 : n6 + n8 ≤ 1000 := by omega
          clear H9
          generalize n6 + n8 = n9 at *
          have HSm := Lib.hid (rgsame_any A4 A9 L4.length c4 n9 c9 w9 (by omega) (by omega) L4 (L6 ++ L8) rfl HL9.out (fun x hx => Nat.le_trans (HC4.out x hx) (by decide)) HC9.out w9.heap.size (HO4.out.rd.on HB9.out) HG9.out)
          generalize hn4 : L4.length = n4 at *
          have HN4 := Lib.hid hn4
          clear hn4
          refine HSm.out.mono ?_
          rintro e w10 ⟨⟨b, rfl, hb⟩, q, rfl⟩
          obtain rfl : b = true := hb.2 HM9.out
          have HB10 := Lib.hid (below_draws HB9.out q)
          clear hb HSm
          generalize w9.drewN q = w10 at *
          have hu4 : users (L4.map Gv.g) ≤ 1000 := Nat.le_trans (users_le _) (by rw [List.length_map, HN4.out]; omega)
          have HU4 := Lib.hid (users_any A4 n4 c4 L4 w10 HN4.out (by unfold maxLen; omega) (HO4.out.rd.on HB10.out).1)
          have HUs := Lib.hid (show users (L4.map Gv.g) = users (groups la) + users (groups lb) by rw [HM4.out, users_append])
          go_wp2_with fail
          refine HU4.out.mono ?_
          rintro e w11 ⟨rfl, hb11⟩
          have HB11 := Lib.hid (bthen HB10.out hb11)
          clear hb11 HU4
          generalize users (L4.map Gv.g) = u4 at *
          go_wp2_with fail
          refine (groups_any (some af) n cap la w11 HN.out.1 (by omega) HN.out.2.1 ((HF4.out.1.below HB11.out).more HB11.out.size)).mono ?_
          rintro e w12 ⟨V12, L12, rfl, hm12, hO12, hb12⟩
          obtain ⟨A12, c12, rfl⟩ := own_slice hO12.row
          have HB12 := Lib.hid (bthen HB11.out hb12)
          have hl12 := gmap_len hm12
          rw [HN.out.1] at hl12
          have HU12 := Lib.hid (users_any A12 L12.length c12 L12 w12 rfl (by unfold maxLen; omega) hO12.rd.1)
          rw [hm12] at HU12
          have hua : users (groups la) ≤ 60 := Nat.le_trans (users_le _) (Nat.le_trans (groups_len la).1 (by rw [HN.out.1]; omega))
          clear hm12 hO12 hb12
          generalize L12.length = n12 at *
          generalize users (groups la) = ua at *
          go_wp2_with fail
          refine HU12.out.mono ?_
          rintro e w13 ⟨rfl, hb13⟩
          have HB13 := Lib.hid (bthen HB12.out hb13)
          clear hb13 HU12
          go_wp2_with fail
          refine (groups_any B m capB lb w13 HN.out.2.2.1 (by omega) HN.out.2.2.2 ((HF4.out.2.below HB13.out).more HB13.out.size)).mono ?_
          rintro e w14 ⟨V14, L14, rfl, hm14, hO14, hb14⟩
          obtain ⟨A14, c14, rfl⟩ := own_slice hO14.row
          have HB14 := Lib.hid (bthen HB13.out hb14)
          have hl14 := gmap_len hm14
          rw [HN.out.2.2.1] at hl14
          have HU14 := Lib.hid (users_any A14 L14.length c14 L14 w14 rfl (by unfold maxLen; omega) hO14.rd.1)
          rw [hm14] at HU14
          have hub : users (groups lb) ≤ 60 := Nat.le_trans (users_le _) (Nat.le_trans (groups_len lb).1 (by rw [HN.out.2.2.1]; omega))
          clear hm14 hO14 hb14
          generalize L14.length = n14 at *
          generalize users (groups lb) = ub at *
          go_wp2_with fail
          refine HU14.out.mono ?_
          rintro e w15 ⟨rfl, hb15⟩
          have HB15 := Lib.hid (bthen HB1.out (bthen HB4.out (bthen HB14.out hb15)))
          have huab : IntKind.i64.wrap ((ua : Int) + (ub : Int)) = (ua : Int) + (ub : Int) := IntWalk.i64_in _ (by omega)
          have heq : ((u4 : Int) == (ua : Int) + (ub : Int)) = true := by rw [HUs.out]; simp
          clear hb15 HU14
          go_wp2
          go_ret
          exact ⟨rfl, HB15.out⟩

        · have hkb : (f.r.kind != 3) = true := by simp [q4]
          clear q4 HPk
          go_wp2_with fail
          refine (QW.out _).mono ?_
          rintro e w9 ⟨rfl, hb9⟩
          have H9 := Lib.hid (bthen HB1.out hb9)
          clear hb9
          go_wp2
          go_ret
          exact ⟨rfl, H9.out⟩

      · obtain rfl : n = 0 := by omega
        have HPn : Hid (pend la = []) := Lib.hid (by rw [List.eq_nil_of_length_eq_zero HN.out.1]; rfl)
        go_wp2_with (first
          | (at_builtin; refine wpList_append_copy _ rfl _ _ _ rfl 41 _ 38 80 elemF rfl A 0 cap rfl (fls la) HLa.out HF1.out.1 (fls_one la) (by simp only [maxLen]; omega) (by omega) ?_; go_loud (intro A2 c2 w2 hown2 hb2; have H2 := Lib.hid (And.intro hown2 hb2); clear hown2 hb2))
          | (at_builtin; go_loud (refine wpList_append_rd _ rfl _ _ _ rfl w1.heap.size 41 _ 38 80 elemF (.slice A2 0 c2) 0 (fls la) rfl H2.out.1 w2.heap.size B m capB (fls lb) rfl HLb.out ((HF1.out.2.below H2.out.2).more H2.out.2.size) (fls_one lb) (by simp only [maxLen]; omega) (by omega) H2.out.2.size ?_); go_loud (intro V3 w3 hown3 hg3 _; have H3 := Lib.hid (And.intro hown3 (H2.out.2.grown hg3 H2.out.2.size fun g hg => (H2.out.1.lt g hg).1)); clear hown3 hg3))
          | fail)
        obtain ⟨A3, c3, rfl⟩ := own_slice H3.out.1
        have HAB : Hid (Rd w3 w3.heap.size A3 (fls (la ++ lb))) := Lib.hid (by rw [fls_append]; exact Rd.own H3.out.1)
        have hnm : 0 + m ≤ 1000 := by omega
        have HNM := Lib.hid (show (la ++ lb).length = 0 + m by rw [List.length_append, HN.out.1, HN.out.2.2.1])
        have HB3 := Lib.hid H3.out.2
        clear H2 H3
        generalize 0 + m = nm at *
        refine (groups_any A3 nm c3 (la ++ lb) w3 HNM.out hnm HIab.out HAB.out).mono ?_
        rintro e w4 ⟨V4, L4, rfl, hm4, hO4, hb4⟩
        obtain ⟨A4, c4, rfl⟩ := own_slice hO4.row
        have HO4 := Lib.hid hO4
        have HM4 := Lib.hid (hm4.trans (groups_join lb HPn.out))
        have HB4 := Lib.hid (bthen HB3.out hb4)
        have HF4 := Lib.hid (And.intro ((HF1.out.1.below HB4.out).more HB4.out.size) ((HF1.out.2.below HB4.out).more HB4.out.size))
        have hl4 := gmap_len hm4
        have hc4 := gmap_ch hm4
        rw [HNM.out] at hl4
        have HC4 := Lib.hid (fun x hx => Nat.le_trans (hc4 x hx) (by rw [HNM.out]; exact hnm) : ∀ x ∈ L4, x.g.ch.length ≤ 1000)
        clear hO4 hm4 hb4 hc4
        go_wp2_with fail
        have HLit : Hid ((w4.alloc (.cells #[] 28)).ownsRow w4.heap.size 28 3 (.slice (some ⟨w4.heap.size, 0, none⟩) 0 0) 0 [] ∧ Below w4.heap.size w4 (w4.alloc (.cells #[] 28))) := Lib.hid ⟨World.ownsRow_lit w4 #[] 0 (Nat.le_refl _) (by decide) (by simp), (Below.refl _ _).alloc (Nat.le_refl _) _⟩
        generalize World.alloc _ _ = w5 at HLit ⊢
        refine (groups_any A 0 cap la w5 HN.out.1 (by omega) HN.out.2.1 ((HF4.out.1.below HLit.out.2).more HLit.out.2.size)).mono ?_
        rintro e w6 ⟨V6, L6, rfl, hm6, hO6, hb6⟩
        obtain ⟨A6, c6, rfl⟩ := own_slice hO6.row
        have HM6 := Lib.hid hm6
        have HR6 := Lib.hid (Rd.own hO6.row)
        have HE6 := Lib.hid hO6.each
        have HLit6 := Lib.hid (own_below HLit.out.1 hb6)
        have HB6 := Lib.hid (bthen HLit.out.2 hb6)
        have hl6 := gmap_len hm6
        have HC6 := Lib.hid (gmap_ch hm6)
        rw [HN.out.1] at hl6
        clear hm6 hO6 hb6
        generalize hn6 : L6.length = n6 at *
        have HL6 := Lib.hid (show (gvs L6).length = n6 * 3 by rw [gvs_length, hn6])
        have HN6 := Lib.hid hn6
        clear hn6
        go_wp2_with (first
          | (at_builtin; go_loud (refine wpList_append_rd _ rfl _ _ _ rfl w4.heap.size 28 _ 3 40 elemG (.slice (some ⟨w4.heap.size, 0, none⟩) 0 0) 0 [] rfl HLit6.out w6.heap.size A6 n6 c6 (gvs L6) rfl HL6.out HR6.out (gvs_one L6) (by simp only [maxLen]; omega) (by omega) HB6.out.size ?_); go_loud (intro V7 w7 hown7 hg7 _; have H7 := Lib.hid (And.intro hown7 (HB6.out.grown hg7 HB6.out.size fun g hg => (HLit6.out.lt g hg).1)); have HE7 := Lib.hid (gch_kept HE6.out HLit6.out hg7); clear hown7 hg7 HLit6))
          | fail)
        obtain ⟨A7, c7, rfl⟩ := own_slice H7.out.1
        have H7' : Hid (w7.ownsRow w4.heap.size 28 3 (.slice A7 (0 + n6) c7) (0 + n6) (gvs L6) ∧ Below w4.heap.size w4 w7) := Lib.hid (by
          have h := H7.out
          rwa [List.nil_append] at h)
        clear H7
        rw [Nat.zero_add] at H7'
        simp only [Nat.zero_add]
        refine (groups_any B m capB lb w7 HN.out.2.2.1 (by omega) HN.out.2.2.2 ((HF4.out.2.below H7'.out.2).more H7'.out.2.size)).mono ?_
        rintro e w8 ⟨V8, L8, rfl, hm8, hO8, hb8⟩
        obtain ⟨A8, c8, rfl⟩ := own_slice hO8.row
        have HM8 := Lib.hid hm8
        have HR8 := Lib.hid (Rd.own hO8.row)
        have HE8 := Lib.hid hO8.each
        have HV8 := Lib.hid (And.intro (own_below H7'.out.1 hb8) (H7'.out.2.trans (hb8.mono H7'.out.2.size)))
        have HEa := Lib.hid (fun x hx => own_below (HE7.out x hx) hb8)
        have hl8 := gmap_len hm8
        have HC8 := Lib.hid (gmap_ch hm8)
        rw [HN.out.2.2.1] at hl8
        clear hm8 hO8 hb8
        generalize hn8 : L8.length = n8 at *
        have HL8 := Lib.hid (show (gvs L8).length = n8 * 3 by rw [gvs_length, hn8])
        have HN8 := Lib.hid hn8
        clear hn8
        go_wp2_with (first
          | (at_builtin; go_loud (refine wpList_append_rd _ rfl _ _ _ rfl w4.heap.size 28 _ 3 40 elemG (.slice A7 n6 c7) n6 (gvs L6) rfl HV8.out.1 w8.heap.size A8 n8 c8 (gvs L8) rfl HL8.out HR8.out (gvs_one L8) (by simp only [maxLen]; omega) (by omega) HV8.out.2.size ?_); go_loud (intro V9 w9 hown9 hg9 _; have H9 := Lib.hid (And.intro hown9 (HV8.out.2.grown hg9 HV8.out.2.size fun g hg => (HV8.out.1.lt g hg).1)); have HEa9 := Lib.hid (gch_kept HEa.out HV8.out.1 hg9); have HEb9 := Lib.hid (gch_kept HE8.out HV8.out.1 hg9); clear hown9 hg9))
          | fail)
        obtain ⟨A9, c9, rfl⟩ := own_slice H9.out.1
        have HG9 : Hid (GRd w9 w9.heap.size A9 (L6 ++ L8)) := Lib.hid ⟨by rw [gvs_append]; exact Rd.own H9.out.1, fun x hx => by
          rcases List.mem_append.1 hx with hx | hx
          · exact Rd.own (HEa9.out x hx)
          · exact Rd.own (HEb9.out x hx)⟩
        have HB9 := Lib.hid H9.out.2
        have HM9 := Lib.hid (show L4.map Gv.g = (L6 ++ L8).map Gv.g by rw [HM4.out, List.map_append, HM6.out, HM8.out])
        have HL9 := Lib.hid (show (L6 ++ L8).length = n6 + n8 by rw [List.length_append, HN6.out, HN8.out])
        have HC9 : Hid (∀ x ∈ L6 ++ L8, x.g.ch.length ≤ 100000) := Lib.hid (fun x hx => by
          have h1 := HN.out.1
          have h2 := HN.out.2.2.1
          rcases List.mem_append.1 hx with hx | hx
          · have := HC6.out x hx
            omega
          · have := HC8.out x hx
            omega)
        have hn68 : n6 + n8 ≤ 1000 := by omega
        clear H9
        generalize n6 + n8 = n9 at *
        have HSm := Lib.hid (rgsame_any A4 A9 L4.length c4 n9 c9 w9 (by omega) (by omega) L4 (L6 ++ L8) rfl HL9.out (fun x hx => Nat.le_trans (HC4.out x hx) (by decide)) HC9.out w9.heap.size (HO4.out.rd.on HB9.out) HG9.out)
        generalize hn4 : L4.length = n4 at *
        have HN4 := Lib.hid hn4
        clear hn4
        refine HSm.out.mono ?_
        rintro e w10 ⟨⟨b, rfl, hb⟩, q, rfl⟩
        obtain rfl : b = true := hb.2 HM9.out
        have HB10 := Lib.hid (below_draws HB9.out q)
        clear hb HSm
        generalize w9.drewN q = w10 at *
        have hu4 : users (L4.map Gv.g) ≤ 1000 := Nat.le_trans (users_le _) (by rw [List.length_map, HN4.out]; omega)
        have HU4 := Lib.hid (users_any A4 n4 c4 L4 w10 HN4.out (by unfold maxLen; omega) (HO4.out.rd.on HB10.out).1)
        have HUs := Lib.hid (show users (L4.map Gv.g) = users (groups la) + users (groups lb) by rw [HM4.out, users_append])
        go_wp2_with fail
        refine HU4.out.mono ?_
        rintro e w11 ⟨rfl, hb11⟩
        have HB11 := Lib.hid (bthen HB10.out hb11)
        clear hb11 HU4
        generalize users (L4.map Gv.g) = u4 at *
        go_wp2_with fail
        refine (groups_any A 0 cap la w11 HN.out.1 (by omega) HN.out.2.1 ((HF4.out.1.below HB11.out).more HB11.out.size)).mono ?_
        rintro e w12 ⟨V12, L12, rfl, hm12, hO12, hb12⟩
        obtain ⟨A12, c12, rfl⟩ := own_slice hO12.row
        have HB12 := Lib.hid (bthen HB11.out hb12)
        have hl12 := gmap_len hm12
        rw [HN.out.1] at hl12
        have HU12 := Lib.hid (users_any A12 L12.length c12 L12 w12 rfl (by unfold maxLen; omega) hO12.rd.1)
        rw [hm12] at HU12
        have hua : users (groups la) ≤ 60 := Nat.le_trans (users_le _) (Nat.le_trans (groups_len la).1 (by rw [HN.out.1]; omega))
        clear hm12 hO12 hb12
        generalize L12.length = n12 at *
        generalize users (groups la) = ua at *
        go_wp2_with fail
        refine HU12.out.mono ?_
        rintro e w13 ⟨rfl, hb13⟩
        have HB13 := Lib.hid (bthen HB12.out hb13)
        clear hb13 HU12
        go_wp2_with fail
        refine (groups_any B m capB lb w13 HN.out.2.2.1 (by omega) HN.out.2.2.2 ((HF4.out.2.below HB13.out).more HB13.out.size)).mono ?_
        rintro e w14 ⟨V14, L14, rfl, hm14, hO14, hb14⟩
        obtain ⟨A14, c14, rfl⟩ := own_slice hO14.row
        have HB14 := Lib.hid (bthen HB13.out hb14)
        have hl14 := gmap_len hm14
        rw [HN.out.2.2.1] at hl14
        have HU14 := Lib.hid (users_any A14 L14.length c14 L14 w14 rfl (by unfold maxLen; omega) hO14.rd.1)
        rw [hm14] at HU14
        have hub : users (groups lb) ≤ 60 := Nat.le_trans (users_le _) (Nat.le_trans (groups_len lb).1 (by rw [HN.out.2.2.1]; omega))
        clear hm14 hO14 hb14
        generalize L14.length = n14 at *
        generalize users (groups lb) = ub at *
        go_wp2_with fail
        refine HU14.out.mono ?_
        rintro e w15 ⟨rfl, hb15⟩
        have HB15 := Lib.hid (bthen HB1.out (bthen HB4.out (bthen HB14.out hb15)))
        have huab : IntKind.i64.wrap ((ua : Int) + (ub : Int)) = (ua : Int) + (ub : Int) := IntWalk.i64_in _ (by omega)
        have heq : ((u4 : Int) == (ua : Int) + (ub : Int)) = true := by rw [HUs.out]; simp
        clear hb15 HU14
        go_wp2
        go_ret
        exact ⟨rfl, HB15.out⟩

    ·
      go_wp2_with fail
      refine (QW.out _).mono ?_
      rintro e w9 ⟨rfl, hb9⟩
      have H9 := Lib.hid (bthen HB1.out hb9)
      clear hb9
      go_wp2
      go_ret
      exact ⟨rfl, H9.out⟩

  ·
    go_wp2_with fail
    refine (QW.out _).mono ?_
    rintro e w9 ⟨rfl, hb9⟩
    have H9 := Lib.hid (bthen HB1.out hb9)
    clear hb9
    go_wp2
    go_ret
    exact ⟨rfl, H9.out⟩

end Go.Proofs.Ytkbgogofedppgaa

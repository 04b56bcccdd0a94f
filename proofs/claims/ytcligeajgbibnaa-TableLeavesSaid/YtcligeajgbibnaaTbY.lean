/-
  Layer 9: the law TableLeaves.
-/
import Derived.Test.YtcligeajgbibnaaTbV
import Derived.Test.YtcligeajgbibnaaStepA
namespace Go.Proofs.Ytcligeajgbibnaa
open Go.RowKit Leaf Tbl
set_option linter.unusedVariables false

namespace Tbl
/-- no place is below 0 -/
def NN (Y : List Int) : Prop := ∀ k, 0 ≤ Y.getD k 0
theorem NN.put {n : Nat} {Y : List Int} (h : NN Y) {b p : Int} (hp : 0 ≤ p) : NN (putY n Y b p) := by
  intro k
  unfold putY
  by_cases hb : hasB n b = true
  · obtain ⟨j, rfl, hj⟩ := hasB_iff.1 hb
    rw [if_pos hb, Int.toNat_natCast]
    by_cases e : j = k
    · subst e
      rw [List.getD_eq_getElem?_getD]
      by_cases hl : j < Y.length
      · rw [List.getElem?_set_self hl]
        exact hp
      · rw [List.getElem?_eq_none (by rw [List.length_set]; omega)]
        exact Int.le_refl 0
    · rw [List.getD_eq_getElem?_getD, List.getElem?_set_ne e, ← List.getD_eq_getElem?_getD]
      exact h k
  · rw [if_neg hb]
    exact h k
def posP (ts : List Pt) : List Pt := ts.filter fun t => decide (0 ≤ t.p)
theorem posP_yes {ts : List Pt} {k : Nat} {t : Pt} (h : ts[k]? = some t) (hp : 0 ≤ t.p) : posP (ts.take (k + 1)) = posP (ts.take k) ++ [t] := by
  obtain ⟨hk, rfl⟩ := List.getElem?_eq_some_iff.1 h
  unfold posP
  rw [List.take_succ_eq_append_getElem hk, List.filter_append]
  simp [hp]
theorem posP_no {ts : List Pt} {k : Nat} {t : Pt} (h : ts[k]? = some t) (hp : ¬ 0 ≤ t.p) : posP (ts.take (k + 1)) = posP (ts.take k) := by
  obtain ⟨hk, rfl⟩ := List.getElem?_eq_some_iff.1 h
  unfold posP
  rw [List.take_succ_eq_append_getElem hk, List.filter_append]
  have hq : ts[k].p < 0 := by omega
  simp [hq]
theorem rnT_one (n : Nat) (ts : List Pt) (t : Pt) : rnT n (ts ++ [t]) = stT n (rnT n ts) t := by
  unfold rnT
  rw [List.foldl_append]
  rfl
theorem rnT_nn (n : Nat) (ts : List Pt) : NN (rnT n (posP ts)).1 := by
  have : ∀ (us : List Pt) (s : List Int × List Bool), (∀ t ∈ us, 0 ≤ t.p) → NN s.1 → NN (us.foldl (stT n) s).1 := by
    intro us
    induction us with
    | nil => exact fun s _ h => h
    | cons t us ih => exact fun s hu h => ih _ (fun x hx => hu x (List.mem_cons_of_mem _ hx)) (h.put (hu t List.mem_cons_self))
  refine this _ _ (fun t ht => ?_) (fun k => ?_)
  · unfold posP at ht
    simpa using (List.mem_filter.1 ht).2
  · show 0 ≤ (List.replicate (10 * pages n) (0 : Int)).getD k 0
    rw [List.getD_eq_getElem?_getD, List.getElem?_replicate]
    split <;> exact Int.le_refl 0
theorem ix_lfsOf (Y : List Int) (gen : Int) (P : Nat) : (lfsOf Y gen P).map ix = List.range P := by
  unfold lfsOf
  rw [List.map_map]
  conv => rhs; rw [← List.map_id (List.range P)]
  apply List.map_congr_left
  intro q _
  show (lfOf Y gen q).index.toNat = q
  exact Int.toNat_natCast q
/-- of the leaves of a table, in whatever order, comes the same table -/
theorem of_perm {n : Nat} {Y : List Int} {gen : Int} {ls : List Lf} (hY : Y.length = 10 * pages n) (hz : TZ n Y) (hnn : NN Y) (hp : ls.Perm (lfsOf Y gen (pages n))) : ofT n ls = some Y := by
  have hl : ls.length = pages n := by rw [hp.length_eq, lfsOf_length]
  have hf : ∀ l ∈ ls, In l ∧ Fits n l := fun l hm => by
    have hm2 := hp.mem_iff.1 hm
    refine ⟨lfsOf_in hY l hm2, ?_⟩
    obtain ⟨q, hq, rfl⟩ := List.mem_map.1 hm2
    have hq : q < pages n := by simpa using hq
    refine ⟨?_, ?_, fun j hj => ?_⟩
    · show (0 : Int) ≤ (q : Int)
      omega
    · show (q : Int) < (pages n : Int)
      omega
    · show okP n ((q : Int).toNat) j ((leafOf Y q).getD j 0)
      rw [leafOf_get hj, Int.toNat_natCast]
      refine ⟨hnn _, fun h => ?_⟩
      apply Classical.byContradiction
      intro hge
      have := hz (q * 10 + j) (by omega)
      omega
  have hn : (ls.map ix).Nodup := (hp.map ix).nodup_iff.2 (by rw [ix_lfsOf]; exact List.nodup_range)
  obtain ⟨ys, h1, h2, h3, _⟩ := of_takes hl hf hn
  rw [h1]
  congr 1
  apply List.ext_getElem?
  intro k
  by_cases hk : k < 10 * pages n
  · have e : k = k / 10 * 10 + k % 10 := by omega
    have hq : k / 10 < pages n := by omega
    have hm : lfOf Y gen (k / 10) ∈ ls := hp.mem_iff.2 (List.mem_map.2 ⟨k / 10, by simpa using hq, rfl⟩)
    have := h3 _ hm (k % 10) (Nat.mod_lt _ (by decide))
    rw [show ix (lfOf Y gen (k / 10)) = k / 10 from Int.toNat_natCast _] at this
    rw [e, this]
    show (leafOf Y (k / 10))[k % 10]? = _
    rw [leafOf_get?, if_pos (Nat.mod_lt _ (by decide))]
  · rw [List.getElem?_eq_none (by omega), List.getElem?_eq_none (by omega)]
theorem of_long {n : Nat} {ls : List Lf} (h : ls.length ≠ pages n) : ofT n ls = none := by
  unfold ofT
  rw [if_neg h]
end Tbl
/-- two elements are exchanged -/
def swapL (ls : List Lf) (i j : Nat) : List Lf := (ls.set i (ls.getD j lf0)).set j (ls.getD i lf0)
theorem swapL_perm {ls : List Lf} {i j : Nat} (hi : i < ls.length) (hj : j < ls.length) : (swapL ls i j).Perm ls := by
  have e : ∀ k (hk : k < ls.length), ls.getD k lf0 = ls[k] := fun k hk => by simp [List.getD_eq_getElem?_getD, hk]
  unfold swapL
  rw [e i hi, e j hj]
  exact List.set_set_perm hi hj
set_option maxRecDepth 100000 in
set_option maxHeartbeats 4000000 in
theorem tblaw_leaves (n : Nat) (A : Option Addr) (len cap : Nat) (ts : List Pt) (A2 : Option Addr) (len2 cap2 : Nat) (zs : List Int) (w : World) (hn : n ≤ 255) (hm : len ≤ maxLen) (hts : ts.length = len) (hr : Rd w w.heap.size A (pls ts))
    (hm2 : len2 ≤ maxLen) (hzs : zs.length = len2) (hzb : ∀ z ∈ zs, 0 ≤ z ∧ z ≤ 255) (hr2 : Rd w w.heap.size A2 (zs.map (Value.int .u8))) :
    Calls Try.prog 5 #[.int .u8 n, .slice A len cap, .slice A2 len2 cap2] w fun e w' => e = .returned (.bool true) ∧ Below w.heap.size w w' := by
  have HZs := Lib.hid (And.intro hzs hzb)
  have HRd2 := Lib.hid hr2
  clear hzs hzb hr2
  have HTs := Lib.hid hts
  have HRd := Lib.hid hr
  clear hts hr
  go_enter Try.func5, Try.ntmps5
  go_wp2_with fail
  refine (awake9_any w).mono ?_
  rintro e w1 ⟨rfl, hb1⟩
  have B1 := Lib.hid hb1
  clear hb1
  by_cases h100 : 100 < len ∨ 100 < len2
  · rcases (show 100 < len ∨ (¬ 100 < len ∧ 100 < len2) by omega) with h1 | ⟨h1, h2⟩
    · go_wp2_with fail
      refine (awake9_any w1).mono ?_
      rintro e w2 ⟨rfl, hb2⟩
      have B2 := Lib.hid (bthen B1.out hb2)
      clear hb2
      go_wp2
      go_ret
      exact ⟨rfl, B2.out⟩
    · go_wp2_with fail
      refine (awake9_any w1).mono ?_
      rintro e w2 ⟨rfl, hb2⟩
      have B2 := Lib.hid (bthen B1.out hb2)
      clear hb2
      go_wp2
      go_ret
      exact ⟨rfl, B2.out⟩
  have hlen : len ≤ 100 := by omega
  have hlen2 : len2 ≤ 100 := by omega
  clear h100
  go_wp2_with fail
  refine (tbnew_any n w1 (by omega)).mono ?_
  rintro e w2 ⟨d, g, h, rfl, t2, hd2, hg2, hh2, hb2⟩
  have G2 : Hid (w.heap.size ≤ d ∧ w.heap.size ≤ g ∧ w.heap.size ≤ h) := Lib.hid (by have := B1.out.size; omega)
  have L2 : Hid (LSt w w2 d g h n (rnT n (posP [])).1 (rnT n (posP [])).2) := Lib.hid ⟨B1.out.trans (hb2.mono B1.out.size), t2⟩
  clear t2 hd2 hg2 hh2 hb2 B1
  go_wp2_with fail
  go_loopw [8] (fun i wr => ∃ k : Nat, k ≤ len ∧ i = .int .i64 k ∧ LSt w wr d g h n (rnT n (posP (ts.take k))).1 (rnT n (posP (ts.take k))).2) (fun i _ => len - (intOf i).toNat)
  case atStart => exact ⟨0, Nat.zero_le _, rfl, L2.out⟩
  case round =>
    clear L2
    obtain ⟨k, hk, rfl, HLS⟩ := hrel
    by_cases hlt : k < len
    · have hkl : k < ts.length := by rw [HTs.out]; exact hlt
      obtain ⟨t, ht⟩ : ∃ t, ts[k]? = some t := ⟨ts[k], by simp [hkl]⟩
      obtain ⟨ad, rfl, hadb, hcs⟩ := put_at HRd.out ht
      by_cases hpos : 0 ≤ t.p
      · have HSn : Hid ((rnT n (posP (ts.take (k + 1)))).1 = putY n (rnT n (posP (ts.take k))).1 t.b t.p ∧ (rnT n (posP (ts.take (k + 1)))).2 = putD n (rnT n (posP (ts.take k))).1 (rnT n (posP (ts.take k))).2 t.b t.p) := Lib.hid ⟨by rw [posP_yes ht hpos, rnT_one]; rfl, by rw [posP_yes ht hpos, rnT_one]; rfl⟩
        have HC : Hid (∀ W, LSt w W d g h n (rnT n (posP (ts.take k))).1 (rnT n (posP (ts.take k))).2 → W.cell? (ad.add (k * 3)) = some (.int .i64 t.b) ∧ W.cell? ⟨(ad.add (k * 3)).block, (ad.add (k * 3)).off + 1, none⟩ = some (.int .i64 t.p)) := Lib.hid fun W hW =>
          ⟨(hcs W (fun p hp => hW.1.cell hp)).1, (hcs W (fun p hp => hW.1.cell hp)).2.1⟩
        have hki : (k : Int) < (len : Int) := by omega
        clear hcs hkl ht hadb
        generalize (rnT n (posP (ts.take k))).1 = Y at *
        generalize (rnT n (posP (ts.take k))).2 = D at *
        have HL := Lib.hid HLS
        obtain ⟨q0, q1⟩ := HC.out wr HL.out
        have hpl : 0 ≤ t.p := hpos
        go_wp2_with fail
        refine wp_region_class_tail (fun w' => LSt w w' d g h n Y D) 11 (by kernel_rfl) (by kernel_rfl) HL.out.drew ?_
        intro X hX f hf hg
        have c0 := fun x => (HC.out _ (hf x)).1
        have c1 := fun x => (HC.out _ (hf x)).2
        have Hf := Lib.hid hf
        clear hf hg HLS q0 q1
        simp only [List.take_succ_cons, List.take_zero, List.drop_succ_cons, List.drop_zero]
        repeat (go_big_quiet_step (fail))
        refine wpQuiet_nil ?_
        rintro _ ⟨x, rfl⟩
        have L := Hf.out x
        clear c0 c1 Hf
        generalize f x = W2 at L ⊢
        clear hX
        have HL2 := Lib.hid L
        clear L
        go_wp2_with fail
        refine (tset_any W2 t.b t.p HL2.out.2).mono ?_
        rintro e w4 ⟨rfl, t4, f4⟩
        have HL4 := Lib.hid (HL2.out.put t4 f4 G2.out.2.1 G2.out.2.2)
        clear t4 f4
        go_wp2
        go_roundw
        case rel => exact ⟨k + 1, by omega, by go_num, by rw [HSn.out.1, HSn.out.2]; exact HL4.out⟩
        case measure => simp [intOf]; omega
      · have HSn : Hid (posP (ts.take (k + 1)) = posP (ts.take k)) := Lib.hid (posP_no ht hpos)
        have HC : Hid (∀ W, LSt w W d g h n (rnT n (posP (ts.take k))).1 (rnT n (posP (ts.take k))).2 → W.cell? (ad.add (k * 3)) = some (.int .i64 t.b) ∧ W.cell? ⟨(ad.add (k * 3)).block, (ad.add (k * 3)).off + 1, none⟩ = some (.int .i64 t.p)) := Lib.hid fun W hW =>
          ⟨(hcs W (fun p hp => hW.1.cell hp)).1, (hcs W (fun p hp => hW.1.cell hp)).2.1⟩
        have hki : (k : Int) < (len : Int) := by omega
        clear hcs hkl ht hadb
        generalize hY : (rnT n (posP (ts.take k))).1 = Y at *
        generalize hD : (rnT n (posP (ts.take k))).2 = D at *
        have HYD : Hid ((rnT n (posP (ts.take k))).1 = Y ∧ (rnT n (posP (ts.take k))).2 = D) := Lib.hid ⟨hY, hD⟩
        clear hY hD
        have HL := Lib.hid HLS
        obtain ⟨q0, q1⟩ := HC.out wr HL.out
        have hpl : t.p < 0 := by omega
        clear hpos HLS
        go_wp2
        go_roundw
        case rel => exact ⟨k + 1, by omega, by go_num, by rw [HSn.out, HYD.out.1, HYD.out.2]; exact HL.out⟩
        case measure => simp [intOf]; omega
    · obtain rfl : len = k := by omega
      have htk : ts.take len = ts := List.take_of_length_le (by rw [HTs.out]; exact Nat.le_refl _)
      rw [htk] at HLS
      clear htk
      have HL := Lib.hid HLS
      have HTZ := Lib.hid (rnT_tz n (posP ts))
      have HNN := Lib.hid (rnT_nn n ts)
      clear HLS
      generalize (rnT n (posP ts)).1 = Y at *
      generalize (rnT n (posP ts)).2 = D at *
      have HLv := Lib.hid (tleaves_any wr 7 HL.out.2)
      go_wp2_with fail
      refine HLv.out.mono ?_
      rintro e w3 ⟨b, rfl, x3, hb3, hbl3⟩
      have L3 := Lib.hid (HL.out.on hbl3)
      have X3 := Lib.hid x3
      have N3 : Hid (d ≠ b ∧ g ≠ b ∧ h ≠ b ∧ w.heap.size ≤ b) := Lib.hid (by
        have h1 := HL.out.2.tb.lt; have h2 := HL.out.2.lv.lt; have h3 := HL.out.2.dt.lt; have h5 := HL.out.1.size
        omega)
      have HY := Lib.hid HL.out.2.hy
      have hpg := pages_le HL.out.2.hn
      have HInY := Lib.hid (lfsOf_in (gen := 7) HL.out.2.hy)
      clear x3 hb3 hbl3 HLv HL
      generalize hP : pages n = P at *
      have HP := Lib.hid hP
      clear hP
      obtain ⟨mr, hmr, hszr⟩ := big_size (P := Try.prog) (t := 50) (s := 12) (by kernel_rfl)
      have hmr0 : ¬ mr = 0 := by omega
      have HM := Lib.hid hmr
      clear hmr
      go_wp2_with fail
      go_loopw [10] (fun i wr => ∃ k : Nat, k ≤ len2 ∧ i = .int .i64 k ∧ LSt w wr d g h n Y D ∧ ∃ ls, Box wr b 50 (lfls ls) ∧ ls.Perm (lfsOf Y 7 P)) (fun i _ => len2 - (intOf i).toNat)
      case atStart => exact ⟨0, Nat.zero_le _, rfl, L3.out, _, X3.out, .refl _⟩
      case round =>
        clear L3 X3
        obtain ⟨k, hk2, rfl, hL, ls, hX, hperm⟩ := hrel
        have hll : ls.length = P := by rw [hperm.length_eq, lfsOf_length]
        have hin : ∀ l ∈ ls, In l := fun l hm => HInY.out l (hperm.mem_iff.1 hm)
        by_cases hgo : k < len2 ∧ 0 < P
        · obtain ⟨hk3, hP0⟩ := hgo
          have hzl : k < zs.length := by rw [HZs.out.1]; exact hk3
          have hz := HZs.out.2 _ (List.getElem_mem hzl)
          obtain ⟨ad2, rfl, _, hc2⟩ := (HRd2.out.below hL.1).at (k := k) (u := .int .u8 zs[k]) (by simp [hzl])
          generalize zs[k] = z at *
          obtain ⟨zn, rfl⟩ : ∃ zn : Nat, z = zn := ⟨z.toNat, by omega⟩
          have hki : (k : Int) < (len2 : Int) := by omega
          have HLs := Lib.hid (And.intro hll hin)
          have HPm := Lib.hid hperm
          have HX := Lib.hid hX
          have HL := Lib.hid hL
          clear hll hin hperm hX hL hzl
          go_wp2
          have ha : k % P < P := Nat.mod_lt _ hP0
          have hbb : zn % P < P := Nat.mod_lt _ hP0
          have hai : ((k : Int) % (P : Int)) < (P : Int) := Int.emod_lt_of_pos _ (by omega)
          have ha0 : 0 ≤ ((k : Int) % (P : Int)) := Int.emod_nonneg _ (by omega)
          have hbi : ((zn : Int) % (P : Int)) < (P : Int) := Int.emod_lt_of_pos _ (by omega)
          have hb0 : 0 ≤ ((zn : Int) % (P : Int)) := Int.emod_nonneg _ (by omega)
          have hga : ls[k % P]? = some (ls.getD (k % P) lf0) := by simp [List.getD_eq_getElem?_getD, HLs.out.1, ha]
          have hgb : ls[zn % P]? = some (ls.getD (zn % P) lf0) := by simp [List.getD_eq_getElem?_getD, HLs.out.1, hbb]
          have hia := HLs.out.2 _ (List.mem_of_getElem? hga)
          have hib := HLs.out.2 _ (List.mem_of_getElem? hgb)
          have HSw : Hid ((swapL ls (k % P) (zn % P)).Perm (lfsOf Y 7 P) ∧ lay (lay (lfls ls) (k % P * 12) (lcs (ls.getD (zn % P) lf0))) (zn % P * 12) (lcs (ls.getD (k % P) lf0)) = lfls (swapL ls (k % P) (zn % P))) := Lib.hid (by
            have hsi : ∀ l ∈ ls.set (k % P) (ls.getD (zn % P) lf0), In l := fun l hm => by
              rcases List.mem_or_eq_of_mem_set hm with h | h
              · exact HLs.out.2 l h
              · rw [h]; exact hib
            refine ⟨(swapL_perm (by rw [HLs.out.1]; exact ha) (by rw [HLs.out.1]; exact hbb)).trans HPm.out, ?_⟩
            unfold swapL
            rw [lfls_set hsi hia (by rw [List.length_set, HLs.out.1]; exact hbb), lfls_set HLs.out.2 hib (by rw [HLs.out.1]; exact ha)])
          have hCl : (lfls ls).length = P * 12 := by rw [lfls_length HLs.out.2, HLs.out.1]
          have hlla := lcs_length hia
          have hllb := lcs_length hib
          have h1a := lcs_one (ls.getD (k % P) lf0)
          have h1b := lcs_one (ls.getD (zn % P) lf0)
          have hra : (wr.drew).rangeAt b (k % P * mr) (lcs (ls.getD (k % P) lf0)) := Box.range (w := wr.drew) HX.out _ _ fun j v hv => by rw [HM.out]; exact lfls_at HLs.out.2 hga hv
          have hrb : (wr.drew).rangeAt b (zn % P * mr) (lcs (ls.getD (zn % P) lf0)) := Box.range (w := wr.drew) HX.out _ _ fun j v hv => by rw [HM.out]; exact lfls_at HLs.out.2 hgb hv
          rw [← HM.out] at HSw
          generalize lcs (ls.getD (k % P) lf0) = La at *
          generalize lcs (ls.getD (zn % P) lf0) = Lb at *
          generalize lfls ls = C at *
          have hla := big_load0 Try.prog b (k % P * mr) La mr (by rw [hlla, HM.out]) wr.drew hra
          have hlb := big_load0 Try.prog b (zn % P * mr) Lb mr (by rw [hllb, HM.out]) wr.drew hrb
          have hX0 : Box wr.drew b 50 C := HX.out
          have hs1 := mid_heap (P := Try.prog) wr.drew (off := k % P * mr) (vs := Lb) hX0 h1b (by rw [hCl, hllb, HM.out]; omega)
          obtain ⟨hX1, hg1, hz1⟩ := mid_setRow (cs' := lay C (k % P * mr) Lb) wr.drew hX0
          generalize wr.drew.setRow b (lay C (k % P * mr) Lb).toArray = W1 at hs1 hX1 hg1 hz1
          have hs2 := mid_heap (P := Try.prog) W1 (off := zn % P * mr) (vs := La) hX1 h1a (by rw [lay_length (by rw [hCl, hllb, HM.out]; omega), hCl, hlla, HM.out]; omega)
          obtain ⟨hX2, hg2, hz2⟩ := mid_setRow (cs' := lay (lay C (k % P * mr) Lb) (zn % P * mr) La) W1 hX1
          generalize W1.setRow b (lay (lay C (k % P * mr) Lb) (zn % P * mr) La).toArray = W2 at hs2 hX2 hg2 hz2
          rw [HSw.out.2] at hX2
          have HX2 := Lib.hid hX2
          have HL2 : Hid (LSt w W2 d g h n Y D) := Lib.hid (by
            have f : Fr (fun x => x = b) wr W2 := ((Fr.refl wr).drew.trans (Fr.of_grown hg1 (fun k e => by injection e with e; exact e.symm))).trans (Fr.of_grown hg2 (fun k e => by injection e with e; exact e.symm))
            have := N3.out
            exact ⟨HL.out.1.trans (f.below HL.out.1.size (fun x hx hT => by omega)), HL.out.2.fr f (fun e => by omega) (fun e => by omega) (fun e => by omega)⟩)
          have hlma : La.length = mr := by rw [hlla, HM.out]
          have hlmb : Lb.length = mr := by rw [hllb, HM.out]
          clear hX0 hX1 hg1 hz1 hX2 hg2 hz2 hra hrb hia hib hga hgb h1a h1b hlla hllb hCl HX HL HPm
          have HPm2 := Lib.hid HSw.out.1
          clear HSw HLs
          go_region
          all_goals go_wp2
          all_goals go_roundw
          case rel => exact ⟨k + 1, by omega, by go_num, HL2.out, _, HX2.out, HPm2.out⟩
          case measure => first | (simp [intOf]; done) | (simp [intOf]; omega)
        · have hoF := of_perm (n := n) (gen := 7) (ls := ls) (by rw [HP.out]; exact HY.out) HTZ.out HNN.out (by rw [HP.out]; exact hperm)
          have HOfS := Lib.hid hoF
          have HLl := Lib.hid hll
          have HIl := Lib.hid hin
          have HX := Lib.hid hX
          have HL := Lib.hid hL
          have HYt : Hid ((Y.take n).length = n) := Lib.hid (by have := pages_up n; rw [HP.out] at this; rw [List.length_take, HY.out]; omega)
          clear hoF hll hin hX hL hperm
          by_cases hk3 : k < len2
          · obtain rfl : P = 0 := by omega
            clear hgo
            have HO := Lib.hid (tof_any n (some ⟨b, 0, none⟩) 0 ls wr (by omega) HIl.out (by rw [HLl.out]; omega) (HX.out.rd HX.out.lt))
            rw [HOfS.out, HLl.out] at HO
            go_wp2_with fail
            refine HO.out.mono ?_
            rintro e w4 ⟨hpost, hb4⟩
            obtain ⟨d2, g2, h2, rfl, t4, hd4, hg4, hh4⟩ := hpost
            have L4 := Lib.hid (HL.out.on hb4)
            have X4 := Lib.hid (HX.out.below hb4 HX.out.lt)
            have T4 := Lib.hid t4
            clear t4 hd4 hg4 hh4 hb4 HO HL HX
            have HPl := Lib.hid (tplaces_any w4 L4.out.2)
            go_wp2_with fail
            refine HPl.out.mono ?_
            rintro e w5 ⟨b5, rfl, x5, hb5, hbl5⟩
            have L5 := Lib.hid (L4.out.on hbl5)
            have X5 := Lib.hid (X4.out.below hbl5 X4.out.lt)
            have T5 := Lib.hid (T4.out.on hbl5)
            have Z5 := Lib.hid x5
            clear x5 hb5 hbl5 HPl L4 X4 T4
            have HPl := Lib.hid (tplaces_any w5 T5.out)
            go_wp2_with fail
            refine HPl.out.mono ?_
            rintro e w6 ⟨b6, rfl, x6, hb6, hbl6⟩
            have L6 := Lib.hid (L5.out.on hbl6)
            have X6 := Lib.hid (X5.out.below hbl6 X5.out.lt)
            have T6 := Lib.hid (T5.out.on hbl6)
            have Z6 := Lib.hid (Z5.out.below hbl6 Z5.out.lt)
            have Y6 := Lib.hid x6
            clear x6 hb6 hbl6 HPl L5 X5 T5 Z5
            go_wp2_with fail
            refine (isame_any (some ⟨b5, 0, none⟩) (some ⟨b6, 0, none⟩) n n n n w6 (by unfold maxLen; omega) (by unfold maxLen; omega) (Y.take n) (Y.take n) HYt.out HYt.out w6.heap.size (Z6.out.rd Z6.out.lt) (Y6.out.rd Y6.out.lt)).mono ?_
            rw [beq_self_eq_true]
            rintro e w7 ⟨rfl, q7, rfl⟩
            have L7 := Lib.hid (L6.out.drewN q7)
            have X7 : Hid (Box (w6.drewN q7) b 50 (lfls ls)) := Lib.hid X6.out
            have T7 : Hid (TbIs (w6.drewN q7) d2 g2 h2 n Y (List.replicate (pages n) false)) := Lib.hid ⟨T6.out.tb, T6.out.lv, T6.out.dt, T6.out.hn, T6.out.hy, T6.out.hd⟩
            clear L6 X6 T6 Z6 Y6
            generalize w6.drewN q7 = w7 at *
            have HC1 := Lib.hid (tcount_any w7 L7.out.2)
            have HC2 := Lib.hid (tcount_any w7 T7.out)
            generalize cntT Y n = cv at *
            have hcv : ((cv : Int) != (cv : Int)) = false := by simp
            go_wp2_with fail
            refine HC1.out.mono ?_
            rintro e w8 ⟨rfl, rfl⟩
            go_wp2_with fail
            refine HC2.out.mono ?_
            rintro e w8 ⟨rfl, rfl⟩
            clear HC1 HC2 T7
            go_wp2
            go_ret
            exact ⟨rfl, L7.out.1⟩
          · clear hgo
            have HO := Lib.hid (tof_any n (some ⟨b, 0, none⟩) P ls wr (by omega) HIl.out (by rw [HLl.out]; omega) (HX.out.rd HX.out.lt))
            rw [HOfS.out, HLl.out] at HO
            go_wp2_with fail
            refine HO.out.mono ?_
            rintro e w4 ⟨hpost, hb4⟩
            obtain ⟨d2, g2, h2, rfl, t4, hd4, hg4, hh4⟩ := hpost
            have L4 := Lib.hid (HL.out.on hb4)
            have X4 := Lib.hid (HX.out.below hb4 HX.out.lt)
            have T4 := Lib.hid t4
            clear t4 hd4 hg4 hh4 hb4 HO HL HX
            have HPl := Lib.hid (tplaces_any w4 L4.out.2)
            go_wp2_with fail
            refine HPl.out.mono ?_
            rintro e w5 ⟨b5, rfl, x5, hb5, hbl5⟩
            have L5 := Lib.hid (L4.out.on hbl5)
            have X5 := Lib.hid (X4.out.below hbl5 X4.out.lt)
            have T5 := Lib.hid (T4.out.on hbl5)
            have Z5 := Lib.hid x5
            clear x5 hb5 hbl5 HPl L4 X4 T4
            have HPl := Lib.hid (tplaces_any w5 T5.out)
            go_wp2_with fail
            refine HPl.out.mono ?_
            rintro e w6 ⟨b6, rfl, x6, hb6, hbl6⟩
            have L6 := Lib.hid (L5.out.on hbl6)
            have X6 := Lib.hid (X5.out.below hbl6 X5.out.lt)
            have T6 := Lib.hid (T5.out.on hbl6)
            have Z6 := Lib.hid (Z5.out.below hbl6 Z5.out.lt)
            have Y6 := Lib.hid x6
            clear x6 hb6 hbl6 HPl L5 X5 T5 Z5
            go_wp2_with fail
            refine (isame_any (some ⟨b5, 0, none⟩) (some ⟨b6, 0, none⟩) n n n n w6 (by unfold maxLen; omega) (by unfold maxLen; omega) (Y.take n) (Y.take n) HYt.out HYt.out w6.heap.size (Z6.out.rd Z6.out.lt) (Y6.out.rd Y6.out.lt)).mono ?_
            rw [beq_self_eq_true]
            rintro e w7 ⟨rfl, q7, rfl⟩
            have L7 := Lib.hid (L6.out.drewN q7)
            have X7 : Hid (Box (w6.drewN q7) b 50 (lfls ls)) := Lib.hid X6.out
            have T7 : Hid (TbIs (w6.drewN q7) d2 g2 h2 n Y (List.replicate (pages n) false)) := Lib.hid ⟨T6.out.tb, T6.out.lv, T6.out.dt, T6.out.hn, T6.out.hy, T6.out.hd⟩
            clear L6 X6 T6 Z6 Y6
            generalize w6.drewN q7 = w7 at *
            have HC1 := Lib.hid (tcount_any w7 L7.out.2)
            have HC2 := Lib.hid (tcount_any w7 T7.out)
            generalize cntT Y n = cv at *
            have hcv : ((cv : Int) != (cv : Int)) = false := by simp
            go_wp2_with fail
            refine HC1.out.mono ?_
            rintro e w8 ⟨rfl, rfl⟩
            go_wp2_with fail
            refine HC2.out.mono ?_
            rintro e w8 ⟨rfl, rfl⟩
            clear HC1 HC2 T7
            by_cases hP0 : P = 0
            · subst hP0
              go_wp2
              go_ret
              exact ⟨rfl, L7.out.1⟩
            · have hPz : ((P : Int) == 0) = false := by simpa using hP0
              obtain ⟨l0, lt, hlc⟩ : ∃ l0 lt, ls = l0 :: lt := by
                cases hls : ls with
                | nil => have := HLl.out; rw [hls] at this; simp at this; omega
                | cons a r => exact ⟨a, r, rfl⟩
              have HLc := Lib.hid hlc
              have hltl : Hid (lt.length = P - 1) := Lib.hid (by have := HLl.out; rw [hlc] at this; simp at this; omega)
              have hlti : Hid (∀ l ∈ lt, In l) := Lib.hid (fun l hm => HIl.out l (by rw [hlc]; exact List.mem_cons_of_mem _ hm))
              have hR7 : Hid (Rd w7 w7.heap.size (some ⟨b, 12, none⟩) (lfls lt)) := Lib.hid (by
                have h1 : Rd w7 w7.heap.size (some ⟨b, 0, none⟩) (lfls ls) := X7.out.rd X7.out.lt
                have h2 := h1.tail (m := 12)
                have e : (lfls ls).drop 12 = lfls lt := by
                  rw [hlc, lfls_cons]
                  have := lcs_length (HIl.out l0 (by rw [hlc]; exact List.mem_cons_self))
                  exact List.drop_left' this
                rw [e] at h2
                exact h2)
              clear hlc
              have HlcL := Lib.hid (show ofT n lt = none from of_long (by rw [hltl.out, HP.out]; omega))
              have HOt : Hid (∀ A' W, Rd W W.heap.size A' (lfls lt) → Calls Try.prog 19 #[.int .i64 n, .slice A' (P - 1) (P - 1)] W fun e w' => e = .returned (.tuple #[.pointer none, .int .i64 7]) ∧ Below W.heap.size W w') := Lib.hid fun A' W hA => by
                have h := tof_any n A' (P - 1) lt W (by omega) hlti.out (by rw [hltl.out]; omega) hA
                rw [HlcL.out, hltl.out] at h
                exact h
              by_cases hP1 : P = 1
              · have hl0 : Hid (lfls lt = []) := Lib.hid (by have := hltl.out; rw [List.eq_nil_of_length_eq_zero (show lt.length = 0 by omega)]; rfl)
                have hR0 : Hid (Rd w7 w7.heap.size (some ⟨b, 0, none⟩) (lfls lt)) := Lib.hid (by rw [hl0.out]; exact Rd.empty)
                have hOt1 := HOt.out (some ⟨b, 0, none⟩) w7 hR0.out
                rw [hP1] at hOt1
                have HOt1 := Lib.hid hOt1
                clear hOt1 HOt hR7 hR0 hl0
                subst hP1
                go_wp2_with fail
                refine HOt1.out.mono ?_
                rintro e w8 ⟨rfl, hb8⟩
                have L8 := Lib.hid (L7.out.on hb8)
                have X8 := Lib.hid (X7.out.below hb8 X7.out.lt)
                clear hb8 L7 X7 HOt1
                go_wp2_with fail
                have hCl0 : (lfls ls).length = 1 * 12 := by rw [lfls_length HIl.out, HLl.out]
                have h1c0 := lfls_one ls
                have HInT : Hid (∀ l ∈ ls ++ [l0], In l) := Lib.hid (fun l hm => by
                  rcases List.mem_append.1 hm with h | h
                  · exact HIl.out l h
                  · rw [List.mem_singleton.1 h]; exact HIl.out l0 (by rw [HLc.out]; exact List.mem_cons_self))
                have HLtw : Hid (ofT n (ls ++ [l0]) = none) := Lib.hid (of_long (by rw [List.length_append, HLl.out, HP.out]; simp))
                have hl12 := lcs_length (HIl.out l0 (by rw [HLc.out]; exact List.mem_cons_self))
                have HLd : Hid (∀ W, Box W b 50 (lfls ls) → (loadCellsFrom ⟨b, 0, none⟩ 0 mr #[]).run Try.prog W = .ok (lcs l0).toArray W) := Lib.hid fun W hW =>
                  big_load0 Try.prog b 0 (lcs l0) mr (by rw [hl12, HM.out]) W (hW.range 0 _ fun j v hj => by
                    rw [Nat.zero_add, HLc.out, lfls_cons, List.getElem?_append_left (by exact (List.getElem?_eq_some_iff.1 hj).1)]
                    exact hj)
                have HOt9 : Hid (∀ A' c W, Rd W W.heap.size A' (lfls ls ++ lcs l0) → Calls Try.prog 19 #[.int .i64 n, .slice A' 2 c] W fun e w' => e = .returned (.tuple #[.pointer none, .int .i64 7]) ∧ Below W.heap.size W w') := Lib.hid fun A' c W hA => by
                  have e1 : lfls (ls ++ [l0]) = lfls ls ++ lcs l0 := by rw [lfls_append]; simp [lfls]
                  have h := tof_any n A' c (ls ++ [l0]) W (by omega) HInT.out (by rw [List.length_append, HLl.out]; first | (simp; done) | (simp; omega)) (by rw [e1]; exact hA)
                  rw [HLtw.out, List.length_append, HLl.out] at h
                  exact h
                have HL0 := Lib.hid (And.intro hl12 (lcs_one l0))
                have hPp : (0 : Nat) < 1 := by omega
                have SO : Hid (∀ W, Below w8.heap.size w8 W → Box W b 50 (lfls ls)) := Lib.hid fun W hW => X8.out.below hW X8.out.lt
                have RD : Hid (∀ W, Below w8.heap.size w8 W → Rd W w8.heap.size (some ⟨b, 0, none⟩) (lfls ls)) := Lib.hid fun W hW => (X8.out.rd X8.out.lt).below hW
                generalize lfls ls = C at *
                generalize lcs l0 = L0 at *
                have HCl := Lib.hid hCl0
                have H1c := Lib.hid h1c0
                clear hCl0 h1c0 hl12 X8
                have hwrn : IntKind.i64.wrap (n : Int) = (n : Int) := by rw [IntKind.wrap_i64]; omega
                have OW1 : Hid (∀ W : World, (W.alloc (.cells #[] 50)).ownsRow W.heap.size 50 12 (.slice (some ⟨W.heap.size, 0, none⟩) 0 0) 0 []) := Lib.hid (fun W => World.ownsRow_lit W #[] 0 (Nat.le_refl _) (by decide) (by simp))
                refine wp_region_held_drew (S := fun w' => Box w' b 50 C) (by kernel_rfl) ?_ (fun hHeld => ?_)
                · exact SO.out _ (Below.refl _ _).drew
                refine wpAnyH_take (i := 0) (v := ?v0p) rfl (by kernel_rfl) (by kernel_rfl) (by kernel_rfl) (fun _ _ _ h => h) (Or.inl ⟨by rfl, ?hy0p⟩) (by assumption) ?rest0p
                case hy0p =>
                  intro w hSw
                  try dsimp only at hSw
                  go_simp
                  try with_reducible rfl
                try simp only [Act.put]
                try simp only [List.setIfInBounds_toArray]
                try simp only [List.set_cons_succ]
                try simp only [List.set_cons_zero]
                refine wpAnyH_take (i := 1) (v := ?v1p) rfl (by kernel_rfl) (by kernel_rfl) (by kernel_rfl) (fun _ _ _ h => h) (Or.inl ⟨by rfl, ?hy1p⟩) (by assumption) ?rest1p
                case hy1p =>
                  intro w hSw
                  try dsimp only at hSw
                  go_simp
                  try with_reducible rfl
                try simp only [Act.put]
                try simp only [List.setIfInBounds_toArray]
                try simp only [List.set_cons_succ]
                try simp only [List.set_cons_zero]
                refine wpAnyH_take (i := 3) (v := ?v3p) rfl (by kernel_rfl) (by kernel_rfl) (by kernel_rfl) (fun _ _ _ h => h) (Or.inl ⟨by rfl, ?hy3p⟩) (by assumption) ?rest3p
                case hy3p =>
                  intro w hSw
                  try dsimp only at hSw
                  go_simp
                  try with_reducible rfl
                try simp only [Act.put]
                try simp only [List.setIfInBounds_toArray]
                try simp only [List.set_cons_succ]
                try simp only [List.set_cons_zero]
                refine wpAnyH_take (i := 5) (v := ?v5p) rfl (by kernel_rfl) (by kernel_rfl) (by kernel_rfl) (fun _ _ _ h => h) (Or.inl ⟨by rfl, ?hy5p⟩) (by assumption) ?rest5p
                case hy5p =>
                  intro w hSw
                  try dsimp only at hSw
                  go_simp
                  try with_reducible rfl
                try simp only [Act.put]
                try simp only [List.setIfInBounds_toArray]
                try simp only [List.set_cons_succ]
                try simp only [List.set_cons_zero]
                refine wpAnyH_take (i := 6) (v := ?v6p) rfl (by kernel_rfl) (by kernel_rfl) (by kernel_rfl) (fun _ _ _ h => h) (Or.inl ⟨by rfl, ?hy6p⟩) (by assumption) ?rest6p
                case hy6p =>
                  intro w hSw
                  try dsimp only at hSw
                  go_simp
                  try with_reducible rfl
                try simp only [Act.put]
                try simp only [List.setIfInBounds_toArray]
                try simp only [List.set_cons_succ]
                try simp only [List.set_cons_zero]
                refine wpAnyH_take (i := 7) (v := ?v7p) rfl (by kernel_rfl) (by kernel_rfl) (by kernel_rfl) (fun _ _ _ h => h) (Or.inl ⟨by rfl, ?hy7p⟩) (by assumption) ?rest7p
                case hy7p =>
                  intro w hSw
                  try dsimp only at hSw
                  have hl7 := HLd.out w hSw
                  go_simp
                  try with_reducible rfl
                try simp only [Act.put]
                try simp only [List.setIfInBounds_toArray]
                try simp only [List.set_cons_succ]
                try simp only [List.set_cons_zero]
                refine wpAnyH_ready (rs := [2, 8]) (by kernel_rfl) (by simp) ?_
                refine AllReadyH.cons (o := ⟨some 136, .buildSlice _ _ _, _, _, _, _⟩) rfl (fun K hK => ?_) (AllReadyH.cons (o := ⟨some 142, .buildSlice _ _ _, _, _, _, _⟩) rfl (fun K hK => ?_) AllReadyH.nil)
                · go_simp
                  have B1 : Below w8.heap.size w8 (w8.alloc (.cells #[] 50)).drew := ((Below.refl w8.heap.size w8).alloc (Nat.le_refl _) _).drew
                  have O1 : ((w8.alloc (.cells #[] 50)).drew).ownsRow w8.heap.size 50 12 (.slice (some ⟨w8.heap.size, 0, none⟩) 0 0) 0 [] := OW1.out w8
                  have S1 : w8.heap.size < ((w8.alloc (.cells #[] 50)).drew).heap.size := by show w8.heap.size < (w8.alloc _).heap.size; simp
                  refine hK.out _ _ (SO.out _ (B1)) (fun hHeld => ?_)
                  clear hK K
                  try simp only [Act.put]
                  try simp only [List.setIfInBounds_toArray]
                  try simp only [List.set_cons_succ]
                  try simp only [List.set_cons_zero]
                  generalize (w8.alloc (.cells #[] 50)).drew = W1 at B1 O1 S1 ⊢
                  refine wpAnyH_ready (rs := [4, 8]) (by kernel_rfl) (by simp) ?_
                  refine AllReadyH.cons (o := ⟨some 138, .call _, _, _, _, _⟩) rfl (fun K hK => ?_) (AllReadyH.cons (o := ⟨some 142, .buildSlice _ _ _, _, _, _, _⟩) rfl (fun K hK => ?_) AllReadyH.nil)
                  · skip
                    refine step_append_rd W1 (by rfl) _ _ _ (by rfl) w8.heap.size 50 _ 12 96 elemL (.slice (some ⟨w8.heap.size, 0, none⟩) 0 0) 0 [] (by rfl) O1 w8.heap.size (some ⟨b, 0, none⟩) 1 1 C (by rfl) HCl.out (RD.out _ B1) H1c.out (by unfold maxLen; omega) (by omega) B1.size ?_
                    intro v4 w4 hown4 hg4
                    obtain ⟨A4, k4, rfl⟩ := own_slice hown4
                    simp only [Nat.zero_add, List.nil_append] at hown4 ⊢
                    have B4 : Below w8.heap.size w8 w4 := B1.grown hg4 B1.size (fun k hk => (O1.lt k hk).1)
                    refine hK.out _ _ (SO.out _ (B4)) (fun hHeld => ?_)
                    clear hK K
                    try simp only [Act.put]
                    try simp only [List.setIfInBounds_toArray]
                    try simp only [List.set_cons_succ]
                    try simp only [List.set_cons_zero]
                    refine wpAnyH_ready (rs := [8]) (by kernel_rfl) (by simp) ?_
                    refine AllReadyH.cons (o := ⟨some 142, .buildSlice _ _ _, _, _, _, _⟩) rfl (fun K hK => ?_) AllReadyH.nil
                    refine step_slice_one w4 (by rfl) _ _ (by rfl) 50 _ 12 96 elemL (by decide) L0 HL0.out.1 (by rfl) ?_
                    have B5 := below_alloc1 (o := .cells L0.toArray 50) B4
                    have X5 := Box.new w4 50 L0
                    have O5 := hown4.alloc (.cells L0.toArray 50)
                    refine hK.out _ _ (SO.out _ (B5)) (fun hHeld => ?_)
                    clear hK K
                    try simp only [Act.put]
                    try simp only [List.setIfInBounds_toArray]
                    try simp only [List.set_cons_succ]
                    try simp only [List.set_cons_zero]
                    refine wpAnyH_ready (rs := [9]) (by kernel_rfl) (by simp) ?_
                    refine AllReadyH.cons (o := ⟨some 143, .call _, _, _, _, _⟩) rfl (fun K hK => ?_) AllReadyH.nil
                    refine step_append_big (w4.alloc (.cells L0.toArray 50)) (by rfl) _ _ _ (by rfl) w8.heap.size 50 _ 12 96 elemL (.slice A4 1 k4) 1 C (by rfl) O5 w4.heap.size L0 (by rfl) HL0.out.1 (fun j u hu => by rw [Addr.add_mid, Nat.zero_add]; exact (X5.cell j).trans hu) HL0.out.2 (by unfold maxLen; omega) (by omega) B5.size ?_
                    intro g9 c9 w9 hown9 hg9 _
                    have B9 : Below w8.heap.size w8 w9 := B5.grown hg9 B5.size (fun k hk => (O5.lt k hk).1)
                    refine hK.out _ _ (SO.out _ (B9)) (fun hHeld => ?_)
                    clear hK K
                    try simp only [Act.put]
                    try simp only [List.setIfInBounds_toArray]
                    try simp only [List.set_cons_succ]
                    try simp only [List.set_cons_zero]
                    refine wpAnyH_ready (rs := [10]) (by kernel_rfl) (by simp) ?_
                    refine AllReadyH.cons (o := ⟨some 144, .call _, _, _, _, _⟩) rfl (fun K hK => ?_) AllReadyH.nil
                    go_simp
                    try rw [hwrn]
                    refine (HOt9.out (some ⟨g9, 0, none⟩) c9 w9 (Rd.own hown9)).mono ?_
                    rintro e w10 ⟨rfl, hb10⟩
                    have B10 := B9.trans (hb10.mono B9.size)
                    have L10 := Lib.hid (L8.out.on B10)
                    go_wp2_with fail
                    refine hK.out _ _ (SO.out _ (B10)) (fun hHeld => ?_)
                    clear hK K
                    try simp only [Act.put]
                    try simp only [List.setIfInBounds_toArray]
                    try simp only [List.set_cons_succ]
                    try simp only [List.set_cons_zero]
                    refine wpAnyH_take (i := 11) (v := ?v11pa) rfl (by kernel_rfl) (by kernel_rfl) (by kernel_rfl) (fun _ _ _ h => h) (Or.inl ⟨by rfl, ?hy11pa⟩) (by assumption) ?rest11pa
                    case hy11pa =>
                      intro w hSw
                      try dsimp only at hSw
                      go_simp
                      try with_reducible rfl
                    try simp only [Act.put]
                    try simp only [List.setIfInBounds_toArray]
                    try simp only [List.set_cons_succ]
                    try simp only [List.set_cons_zero]
                    refine wpAnyH_take (i := 12) (v := ?v12pa) rfl (by kernel_rfl) (by kernel_rfl) (by kernel_rfl) (fun _ _ _ h => h) (Or.inl ⟨by rfl, ?hy12pa⟩) (by assumption) ?rest12pa
                    case hy12pa =>
                      intro w hSw
                      try dsimp only at hSw
                      go_simp
                      try with_reducible rfl
                    try simp only [Act.put]
                    try simp only [List.setIfInBounds_toArray]
                    try simp only [List.set_cons_succ]
                    try simp only [List.set_cons_zero]
                    refine wpAnyH_take (i := 13) (v := ?v13pa) rfl (by kernel_rfl) (by kernel_rfl) (by kernel_rfl) (fun _ _ _ h => h) (Or.inl ⟨by rfl, ?hy13pa⟩) (by assumption) ?rest13pa
                    case hy13pa =>
                      intro w hSw
                      try dsimp only at hSw
                      go_simp
                      try with_reducible rfl
                    try simp only [Act.put]
                    try simp only [List.setIfInBounds_toArray]
                    try simp only [List.set_cons_succ]
                    try simp only [List.set_cons_zero]
                    refine wpAnyH_take (i := 14) (v := ?v14pa) rfl (by kernel_rfl) (by kernel_rfl) (by kernel_rfl) (fun _ _ _ h => h) (Or.inl ⟨by rfl, ?hy14pa⟩) (by assumption) ?rest14pa
                    case hy14pa =>
                      intro w hSw
                      try dsimp only at hSw
                      go_simp
                      try with_reducible rfl
                    try simp only [Act.put]
                    try simp only [List.setIfInBounds_toArray]
                    try simp only [List.set_cons_succ]
                    try simp only [List.set_cons_zero]
                    refine wpAnyH_take (i := 15) (v := ?v15pa) rfl (by kernel_rfl) (by kernel_rfl) (by kernel_rfl) (fun _ _ _ h => h) (Or.inl ⟨by rfl, ?hy15pa⟩) (by assumption) ?rest15pa
                    case hy15pa =>
                      intro w hSw
                      try dsimp only at hSw
                      go_simp
                      try with_reducible rfl
                    try simp only [Act.put]
                    try simp only [List.setIfInBounds_toArray]
                    try simp only [List.set_cons_succ]
                    try simp only [List.set_cons_zero]
                    refine wpAnyH_done (by kernel_rfl) ?_ _
                    clear hown9 hg9 B9 B10 hHeld hb10
                    go_wp2
                    go_ret
                    exact ⟨rfl, L10.out.1⟩
                  · skip
                    refine step_slice_one W1 (by rfl) _ _ (by rfl) 50 _ 12 96 elemL (by decide) L0 HL0.out.1 (by rfl) ?_
                    have B2 := below_alloc1 (o := .cells L0.toArray 50) B1
                    have X2 := Box.new W1 50 L0
                    have O2 := O1.alloc (.cells L0.toArray 50)
                    refine hK.out _ _ (SO.out _ (B2)) (fun hHeld => ?_)
                    clear hK K
                    try simp only [Act.put]
                    try simp only [List.setIfInBounds_toArray]
                    try simp only [List.set_cons_succ]
                    try simp only [List.set_cons_zero]
                    generalize W1.alloc (.cells L0.toArray 50) = W2 at B2 X2 O2 ⊢
                    generalize W1.heap.size = gE at S1 X2 ⊢
                    refine wpAnyH_ready (rs := [4]) (by kernel_rfl) (by simp) ?_
                    refine AllReadyH.cons (o := ⟨some 138, .call _, _, _, _, _⟩) rfl (fun K hK => ?_) AllReadyH.nil
                    refine step_append_rd W2 (by rfl) _ _ _ (by rfl) w8.heap.size 50 _ 12 96 elemL (.slice (some ⟨w8.heap.size, 0, none⟩) 0 0) 0 [] (by rfl) O2 w8.heap.size (some ⟨b, 0, none⟩) 1 1 C (by rfl) HCl.out (RD.out _ B2) H1c.out (by unfold maxLen; omega) (by omega) B2.size ?_
                    intro v4 w4 hown4 hg4
                    obtain ⟨A4, k4, rfl⟩ := own_slice hown4
                    simp only [Nat.zero_add, List.nil_append] at hown4 ⊢
                    have B4 : Below w8.heap.size w8 w4 := B2.grown hg4 B2.size (fun k hk => (O2.lt k hk).1)
                    have X4 := X2.grown (g := w8.heap.size) hg4 (by omega)
                    refine hK.out _ _ (SO.out _ (B4)) (fun hHeld => ?_)
                    clear hK K
                    try simp only [Act.put]
                    try simp only [List.setIfInBounds_toArray]
                    try simp only [List.set_cons_succ]
                    try simp only [List.set_cons_zero]
                    refine wpAnyH_ready (rs := [9]) (by kernel_rfl) (by simp) ?_
                    refine AllReadyH.cons (o := ⟨some 143, .call _, _, _, _, _⟩) rfl (fun K hK => ?_) AllReadyH.nil
                    refine step_append_big w4 (by rfl) _ _ _ (by rfl) w8.heap.size 50 _ 12 96 elemL (.slice A4 1 k4) 1 C (by rfl) hown4 gE L0 (by rfl) HL0.out.1 (fun j u hu => by rw [Addr.add_mid, Nat.zero_add]; exact (X4.cell j).trans hu) HL0.out.2 (by unfold maxLen; omega) (by omega) B4.size ?_
                    intro g9 c9 w9 hown9 hg9 _
                    have B9 : Below w8.heap.size w8 w9 := B4.grown hg9 B4.size (fun k hk => (hown4.lt k hk).1)
                    refine hK.out _ _ (SO.out _ (B9)) (fun hHeld => ?_)
                    clear hK K
                    try simp only [Act.put]
                    try simp only [List.setIfInBounds_toArray]
                    try simp only [List.set_cons_succ]
                    try simp only [List.set_cons_zero]
                    refine wpAnyH_ready (rs := [10]) (by kernel_rfl) (by simp) ?_
                    refine AllReadyH.cons (o := ⟨some 144, .call _, _, _, _, _⟩) rfl (fun K hK => ?_) AllReadyH.nil
                    go_simp
                    try rw [hwrn]
                    refine (HOt9.out (some ⟨g9, 0, none⟩) c9 w9 (Rd.own hown9)).mono ?_
                    rintro e w10 ⟨rfl, hb10⟩
                    have B10 := B9.trans (hb10.mono B9.size)
                    have L10 := Lib.hid (L8.out.on B10)
                    go_wp2_with fail
                    refine hK.out _ _ (SO.out _ (B10)) (fun hHeld => ?_)
                    clear hK K
                    try simp only [Act.put]
                    try simp only [List.setIfInBounds_toArray]
                    try simp only [List.set_cons_succ]
                    try simp only [List.set_cons_zero]
                    refine wpAnyH_take (i := 11) (v := ?v11pb) rfl (by kernel_rfl) (by kernel_rfl) (by kernel_rfl) (fun _ _ _ h => h) (Or.inl ⟨by rfl, ?hy11pb⟩) (by assumption) ?rest11pb
                    case hy11pb =>
                      intro w hSw
                      try dsimp only at hSw
                      go_simp
                      try with_reducible rfl
                    try simp only [Act.put]
                    try simp only [List.setIfInBounds_toArray]
                    try simp only [List.set_cons_succ]
                    try simp only [List.set_cons_zero]
                    refine wpAnyH_take (i := 12) (v := ?v12pb) rfl (by kernel_rfl) (by kernel_rfl) (by kernel_rfl) (fun _ _ _ h => h) (Or.inl ⟨by rfl, ?hy12pb⟩) (by assumption) ?rest12pb
                    case hy12pb =>
                      intro w hSw
                      try dsimp only at hSw
                      go_simp
                      try with_reducible rfl
                    try simp only [Act.put]
                    try simp only [List.setIfInBounds_toArray]
                    try simp only [List.set_cons_succ]
                    try simp only [List.set_cons_zero]
                    refine wpAnyH_take (i := 13) (v := ?v13pb) rfl (by kernel_rfl) (by kernel_rfl) (by kernel_rfl) (fun _ _ _ h => h) (Or.inl ⟨by rfl, ?hy13pb⟩) (by assumption) ?rest13pb
                    case hy13pb =>
                      intro w hSw
                      try dsimp only at hSw
                      go_simp
                      try with_reducible rfl
                    try simp only [Act.put]
                    try simp only [List.setIfInBounds_toArray]
                    try simp only [List.set_cons_succ]
                    try simp only [List.set_cons_zero]
                    refine wpAnyH_take (i := 14) (v := ?v14pb) rfl (by kernel_rfl) (by kernel_rfl) (by kernel_rfl) (fun _ _ _ h => h) (Or.inl ⟨by rfl, ?hy14pb⟩) (by assumption) ?rest14pb
                    case hy14pb =>
                      intro w hSw
                      try dsimp only at hSw
                      go_simp
                      try with_reducible rfl
                    try simp only [Act.put]
                    try simp only [List.setIfInBounds_toArray]
                    try simp only [List.set_cons_succ]
                    try simp only [List.set_cons_zero]
                    refine wpAnyH_take (i := 15) (v := ?v15pb) rfl (by kernel_rfl) (by kernel_rfl) (by kernel_rfl) (fun _ _ _ h => h) (Or.inl ⟨by rfl, ?hy15pb⟩) (by assumption) ?rest15pb
                    case hy15pb =>
                      intro w hSw
                      try dsimp only at hSw
                      go_simp
                      try with_reducible rfl
                    try simp only [Act.put]
                    try simp only [List.setIfInBounds_toArray]
                    try simp only [List.set_cons_succ]
                    try simp only [List.set_cons_zero]
                    refine wpAnyH_done (by kernel_rfl) ?_ _
                    clear hown9 hg9 B9 B10 hHeld hb10
                    go_wp2
                    go_ret
                    exact ⟨rfl, L10.out.1⟩
                · skip
                  refine step_slice_one w8.drew (by rfl) _ _ (by rfl) 50 _ 12 96 elemL (by decide) L0 HL0.out.1 (by rfl) ?_
                  have B1 := below_alloc1 (o := .cells L0.toArray 50) (Below.refl w8.heap.size w8).drew
                  have X1 := Box.new w8.drew 50 L0
                  refine hK.out _ _ (SO.out _ (B1)) (fun hHeld => ?_)
                  clear hK K
                  try simp only [Act.put]
                  try simp only [List.setIfInBounds_toArray]
                  try simp only [List.set_cons_succ]
                  try simp only [List.set_cons_zero]
                  generalize w8.drew.alloc (.cells L0.toArray 50) = W1 at B1 X1 ⊢
                  generalize w8.drew.heap.size = gE at X1 ⊢
                  refine wpAnyH_ready (rs := [2]) (by kernel_rfl) (by simp) ?_
                  refine AllReadyH.cons (o := ⟨some 136, .buildSlice _ _ _, _, _, _, _⟩) rfl (fun K hK => ?_) AllReadyH.nil
                  go_simp
                  have B2 := below_alloc1 (o := .cells #[] 50) B1
                  have X2 : Box (W1.alloc (.cells #[] 50)) gE 50 L0 := X1.below ((Below.refl _ _).alloc (Nat.le_refl _) _) X1.lt
                  have O2 := own_base0 (OW1.out W1) B1.size
                  have S2 := X1.lt
                  refine hK.out _ _ (SO.out _ (B2)) (fun hHeld => ?_)
                  clear hK K
                  try simp only [Act.put]
                  try simp only [List.setIfInBounds_toArray]
                  try simp only [List.set_cons_succ]
                  try simp only [List.set_cons_zero]
                  generalize hW2 : W1.alloc (.cells #[] 50) = W2 at B2 X2 O2 ⊢
                  generalize W1.heap.size = g2 at O2 S2 ⊢
                  refine wpAnyH_ready (rs := [4]) (by kernel_rfl) (by simp) ?_
                  refine AllReadyH.cons (o := ⟨some 138, .call _, _, _, _, _⟩) rfl (fun K hK => ?_) AllReadyH.nil
                  refine step_append_rd W2 (by rfl) _ _ _ (by rfl) w8.heap.size 50 _ 12 96 elemL (.slice (some ⟨g2, 0, none⟩) 0 0) 0 [] (by rfl) O2 w8.heap.size (some ⟨b, 0, none⟩) 1 1 C (by rfl) HCl.out (RD.out _ B2) H1c.out (by unfold maxLen; omega) (by omega) B2.size ?_
                  intro v4 w4 hown4 hg4
                  obtain ⟨A4, k4, rfl⟩ := own_slice hown4
                  simp only [Nat.zero_add, List.nil_append] at hown4 ⊢
                  have B4 : Below w8.heap.size w8 w4 := B2.grown hg4 B2.size (fun k hk => (O2.lt k hk).1)
                  have X4 := X2.grown (g := g2) hg4 (by omega)
                  refine hK.out _ _ (SO.out _ (B4)) (fun hHeld => ?_)
                  clear hK K
                  try simp only [Act.put]
                  try simp only [List.setIfInBounds_toArray]
                  try simp only [List.set_cons_succ]
                  try simp only [List.set_cons_zero]
                  refine wpAnyH_ready (rs := [9]) (by kernel_rfl) (by simp) ?_
                  refine AllReadyH.cons (o := ⟨some 143, .call _, _, _, _, _⟩) rfl (fun K hK => ?_) AllReadyH.nil
                  refine step_append_big w4 (by rfl) _ _ _ (by rfl) w8.heap.size 50 _ 12 96 elemL (.slice A4 1 k4) 1 C (by rfl) hown4 gE L0 (by rfl) HL0.out.1 (fun j u hu => by rw [Addr.add_mid, Nat.zero_add]; exact (X4.cell j).trans hu) HL0.out.2 (by unfold maxLen; omega) (by omega) B4.size ?_
                  intro g9 c9 w9 hown9 hg9 _
                  have B9 : Below w8.heap.size w8 w9 := B4.grown hg9 B4.size (fun k hk => (hown4.lt k hk).1)
                  refine hK.out _ _ (SO.out _ (B9)) (fun hHeld => ?_)
                  clear hK K
                  try simp only [Act.put]
                  try simp only [List.setIfInBounds_toArray]
                  try simp only [List.set_cons_succ]
                  try simp only [List.set_cons_zero]
                  refine wpAnyH_ready (rs := [10]) (by kernel_rfl) (by simp) ?_
                  refine AllReadyH.cons (o := ⟨some 144, .call _, _, _, _, _⟩) rfl (fun K hK => ?_) AllReadyH.nil
                  go_simp
                  try rw [hwrn]
                  refine (HOt9.out (some ⟨g9, 0, none⟩) c9 w9 (Rd.own hown9)).mono ?_
                  rintro e w10 ⟨rfl, hb10⟩
                  have B10 := B9.trans (hb10.mono B9.size)
                  have L10 := Lib.hid (L8.out.on B10)
                  go_wp2_with fail
                  refine hK.out _ _ (SO.out _ (B10)) (fun hHeld => ?_)
                  clear hK K
                  try simp only [Act.put]
                  try simp only [List.setIfInBounds_toArray]
                  try simp only [List.set_cons_succ]
                  try simp only [List.set_cons_zero]
                  refine wpAnyH_take (i := 11) (v := ?v11pc) rfl (by kernel_rfl) (by kernel_rfl) (by kernel_rfl) (fun _ _ _ h => h) (Or.inl ⟨by rfl, ?hy11pc⟩) (by assumption) ?rest11pc
                  case hy11pc =>
                    intro w hSw
                    try dsimp only at hSw
                    go_simp
                    try with_reducible rfl
                  try simp only [Act.put]
                  try simp only [List.setIfInBounds_toArray]
                  try simp only [List.set_cons_succ]
                  try simp only [List.set_cons_zero]
                  refine wpAnyH_take (i := 12) (v := ?v12pc) rfl (by kernel_rfl) (by kernel_rfl) (by kernel_rfl) (fun _ _ _ h => h) (Or.inl ⟨by rfl, ?hy12pc⟩) (by assumption) ?rest12pc
                  case hy12pc =>
                    intro w hSw
                    try dsimp only at hSw
                    go_simp
                    try with_reducible rfl
                  try simp only [Act.put]
                  try simp only [List.setIfInBounds_toArray]
                  try simp only [List.set_cons_succ]
                  try simp only [List.set_cons_zero]
                  refine wpAnyH_take (i := 13) (v := ?v13pc) rfl (by kernel_rfl) (by kernel_rfl) (by kernel_rfl) (fun _ _ _ h => h) (Or.inl ⟨by rfl, ?hy13pc⟩) (by assumption) ?rest13pc
                  case hy13pc =>
                    intro w hSw
                    try dsimp only at hSw
                    go_simp
                    try with_reducible rfl
                  try simp only [Act.put]
                  try simp only [List.setIfInBounds_toArray]
                  try simp only [List.set_cons_succ]
                  try simp only [List.set_cons_zero]
                  refine wpAnyH_take (i := 14) (v := ?v14pc) rfl (by kernel_rfl) (by kernel_rfl) (by kernel_rfl) (fun _ _ _ h => h) (Or.inl ⟨by rfl, ?hy14pc⟩) (by assumption) ?rest14pc
                  case hy14pc =>
                    intro w hSw
                    try dsimp only at hSw
                    go_simp
                    try with_reducible rfl
                  try simp only [Act.put]
                  try simp only [List.setIfInBounds_toArray]
                  try simp only [List.set_cons_succ]
                  try simp only [List.set_cons_zero]
                  refine wpAnyH_take (i := 15) (v := ?v15pc) rfl (by kernel_rfl) (by kernel_rfl) (by kernel_rfl) (fun _ _ _ h => h) (Or.inl ⟨by rfl, ?hy15pc⟩) (by assumption) ?rest15pc
                  case hy15pc =>
                    intro w hSw
                    try dsimp only at hSw
                    go_simp
                    try with_reducible rfl
                  try simp only [Act.put]
                  try simp only [List.setIfInBounds_toArray]
                  try simp only [List.set_cons_succ]
                  try simp only [List.set_cons_zero]
                  refine wpAnyH_done (by kernel_rfl) ?_ _
                  clear hown9 hg9 B9 B10 hHeld hb10
                  go_wp2
                  go_ret
                  exact ⟨rfl, L10.out.1⟩
              · have hR7' : Hid (Rd w7 w7.heap.size (some ⟨b, mr, none⟩) (lfls lt)) := Lib.hid (by rw [HM.out]; exact hR7.out)
                go_wp2_with fail
                refine (HOt.out (some ⟨b, mr, none⟩) w7 hR7'.out).mono ?_
                rintro e w8 ⟨rfl, hb8⟩
                have L8 := Lib.hid (L7.out.on hb8)
                have X8 := Lib.hid (X7.out.below hb8 X7.out.lt)
                clear hb8 L7 X7 hR7 hR7' HOt
                go_wp2_with fail
                have hCl0 : (lfls ls).length = P * 12 := by rw [lfls_length HIl.out, HLl.out]
                have h1c0 := lfls_one ls
                have HInT : Hid (∀ l ∈ ls ++ [l0], In l) := Lib.hid (fun l hm => by
                  rcases List.mem_append.1 hm with h | h
                  · exact HIl.out l h
                  · rw [List.mem_singleton.1 h]; exact HIl.out l0 (by rw [HLc.out]; exact List.mem_cons_self))
                have HLtw : Hid (ofT n (ls ++ [l0]) = none) := Lib.hid (of_long (by rw [List.length_append, HLl.out, HP.out]; simp))
                have hl12 := lcs_length (HIl.out l0 (by rw [HLc.out]; exact List.mem_cons_self))
                have HLd : Hid (∀ W, Box W b 50 (lfls ls) → (loadCellsFrom ⟨b, 0, none⟩ 0 mr #[]).run Try.prog W = .ok (lcs l0).toArray W) := Lib.hid fun W hW =>
                  big_load0 Try.prog b 0 (lcs l0) mr (by rw [hl12, HM.out]) W (hW.range 0 _ fun j v hj => by
                    rw [Nat.zero_add, HLc.out, lfls_cons, List.getElem?_append_left (by exact (List.getElem?_eq_some_iff.1 hj).1)]
                    exact hj)
                have HOt9 : Hid (∀ A' c W, Rd W W.heap.size A' (lfls ls ++ lcs l0) → Calls Try.prog 19 #[.int .i64 n, .slice A' (P + 1) c] W fun e w' => e = .returned (.tuple #[.pointer none, .int .i64 7]) ∧ Below W.heap.size W w') := Lib.hid fun A' c W hA => by
                  have e1 : lfls (ls ++ [l0]) = lfls ls ++ lcs l0 := by rw [lfls_append]; simp [lfls]
                  have h := tof_any n A' c (ls ++ [l0]) W (by omega) HInT.out (by rw [List.length_append, HLl.out]; first | (simp; done) | (simp; omega)) (by rw [e1]; exact hA)
                  rw [HLtw.out, List.length_append, HLl.out] at h
                  exact h
                have HL0 := Lib.hid (And.intro hl12 (lcs_one l0))
                have hPp : 0 < P := by omega
                have SO : Hid (∀ W, Below w8.heap.size w8 W → Box W b 50 (lfls ls)) := Lib.hid fun W hW => X8.out.below hW X8.out.lt
                have RD : Hid (∀ W, Below w8.heap.size w8 W → Rd W w8.heap.size (some ⟨b, 0, none⟩) (lfls ls)) := Lib.hid fun W hW => (X8.out.rd X8.out.lt).below hW
                generalize lfls ls = C at *
                generalize lcs l0 = L0 at *
                have HCl := Lib.hid hCl0
                have H1c := Lib.hid h1c0
                clear hCl0 h1c0 hl12 X8
                have hwrn : IntKind.i64.wrap (n : Int) = (n : Int) := by rw [IntKind.wrap_i64]; omega
                have OW1 : Hid (∀ W : World, (W.alloc (.cells #[] 50)).ownsRow W.heap.size 50 12 (.slice (some ⟨W.heap.size, 0, none⟩) 0 0) 0 []) := Lib.hid (fun W => World.ownsRow_lit W #[] 0 (Nat.le_refl _) (by decide) (by simp))
                refine wp_region_held_drew (S := fun w' => Box w' b 50 C) (by kernel_rfl) ?_ (fun hHeld => ?_)
                · exact SO.out _ (Below.refl _ _).drew
                refine wpAnyH_take (i := 0) (v := ?v0q) rfl (by kernel_rfl) (by kernel_rfl) (by kernel_rfl) (fun _ _ _ h => h) (Or.inl ⟨by rfl, ?hy0q⟩) (by assumption) ?rest0q
                case hy0q =>
                  intro w hSw
                  try dsimp only at hSw
                  go_simp
                  try with_reducible rfl
                try simp only [Act.put]
                try simp only [List.setIfInBounds_toArray]
                try simp only [List.set_cons_succ]
                try simp only [List.set_cons_zero]
                refine wpAnyH_take (i := 1) (v := ?v1q) rfl (by kernel_rfl) (by kernel_rfl) (by kernel_rfl) (fun _ _ _ h => h) (Or.inl ⟨by rfl, ?hy1q⟩) (by assumption) ?rest1q
                case hy1q =>
                  intro w hSw
                  try dsimp only at hSw
                  go_simp
                  try with_reducible rfl
                try simp only [Act.put]
                try simp only [List.setIfInBounds_toArray]
                try simp only [List.set_cons_succ]
                try simp only [List.set_cons_zero]
                refine wpAnyH_take (i := 3) (v := ?v3q) rfl (by kernel_rfl) (by kernel_rfl) (by kernel_rfl) (fun _ _ _ h => h) (Or.inl ⟨by rfl, ?hy3q⟩) (by assumption) ?rest3q
                case hy3q =>
                  intro w hSw
                  try dsimp only at hSw
                  go_simp
                  try with_reducible rfl
                try simp only [Act.put]
                try simp only [List.setIfInBounds_toArray]
                try simp only [List.set_cons_succ]
                try simp only [List.set_cons_zero]
                refine wpAnyH_take (i := 5) (v := ?v5q) rfl (by kernel_rfl) (by kernel_rfl) (by kernel_rfl) (fun _ _ _ h => h) (Or.inl ⟨by rfl, ?hy5q⟩) (by assumption) ?rest5q
                case hy5q =>
                  intro w hSw
                  try dsimp only at hSw
                  go_simp
                  try with_reducible rfl
                try simp only [Act.put]
                try simp only [List.setIfInBounds_toArray]
                try simp only [List.set_cons_succ]
                try simp only [List.set_cons_zero]
                refine wpAnyH_take (i := 6) (v := ?v6q) rfl (by kernel_rfl) (by kernel_rfl) (by kernel_rfl) (fun _ _ _ h => h) (Or.inl ⟨by rfl, ?hy6q⟩) (by assumption) ?rest6q
                case hy6q =>
                  intro w hSw
                  try dsimp only at hSw
                  go_simp
                  try with_reducible rfl
                try simp only [Act.put]
                try simp only [List.setIfInBounds_toArray]
                try simp only [List.set_cons_succ]
                try simp only [List.set_cons_zero]
                refine wpAnyH_take (i := 7) (v := ?v7q) rfl (by kernel_rfl) (by kernel_rfl) (by kernel_rfl) (fun _ _ _ h => h) (Or.inl ⟨by rfl, ?hy7q⟩) (by assumption) ?rest7q
                case hy7q =>
                  intro w hSw
                  try dsimp only at hSw
                  have hl7 := HLd.out w hSw
                  go_simp
                  try with_reducible rfl
                try simp only [Act.put]
                try simp only [List.setIfInBounds_toArray]
                try simp only [List.set_cons_succ]
                try simp only [List.set_cons_zero]
                refine wpAnyH_ready (rs := [2, 8]) (by kernel_rfl) (by simp) ?_
                refine AllReadyH.cons (o := ⟨some 136, .buildSlice _ _ _, _, _, _, _⟩) rfl (fun K hK => ?_) (AllReadyH.cons (o := ⟨some 142, .buildSlice _ _ _, _, _, _, _⟩) rfl (fun K hK => ?_) AllReadyH.nil)
                · go_simp
                  have B1 : Below w8.heap.size w8 (w8.alloc (.cells #[] 50)).drew := ((Below.refl w8.heap.size w8).alloc (Nat.le_refl _) _).drew
                  have O1 : ((w8.alloc (.cells #[] 50)).drew).ownsRow w8.heap.size 50 12 (.slice (some ⟨w8.heap.size, 0, none⟩) 0 0) 0 [] := OW1.out w8
                  have S1 : w8.heap.size < ((w8.alloc (.cells #[] 50)).drew).heap.size := by show w8.heap.size < (w8.alloc _).heap.size; simp
                  refine hK.out _ _ (SO.out _ (B1)) (fun hHeld => ?_)
                  clear hK K
                  try simp only [Act.put]
                  try simp only [List.setIfInBounds_toArray]
                  try simp only [List.set_cons_succ]
                  try simp only [List.set_cons_zero]
                  generalize (w8.alloc (.cells #[] 50)).drew = W1 at B1 O1 S1 ⊢
                  refine wpAnyH_ready (rs := [4, 8]) (by kernel_rfl) (by simp) ?_
                  refine AllReadyH.cons (o := ⟨some 138, .call _, _, _, _, _⟩) rfl (fun K hK => ?_) (AllReadyH.cons (o := ⟨some 142, .buildSlice _ _ _, _, _, _, _⟩) rfl (fun K hK => ?_) AllReadyH.nil)
                  · skip
                    refine step_append_rd W1 (by rfl) _ _ _ (by rfl) w8.heap.size 50 _ 12 96 elemL (.slice (some ⟨w8.heap.size, 0, none⟩) 0 0) 0 [] (by rfl) O1 w8.heap.size (some ⟨b, 0, none⟩) P P C (by rfl) HCl.out (RD.out _ B1) H1c.out (by unfold maxLen; omega) (by omega) B1.size ?_
                    intro v4 w4 hown4 hg4
                    obtain ⟨A4, k4, rfl⟩ := own_slice hown4
                    simp only [Nat.zero_add, List.nil_append] at hown4 ⊢
                    have B4 : Below w8.heap.size w8 w4 := B1.grown hg4 B1.size (fun k hk => (O1.lt k hk).1)
                    refine hK.out _ _ (SO.out _ (B4)) (fun hHeld => ?_)
                    clear hK K
                    try simp only [Act.put]
                    try simp only [List.setIfInBounds_toArray]
                    try simp only [List.set_cons_succ]
                    try simp only [List.set_cons_zero]
                    refine wpAnyH_ready (rs := [8]) (by kernel_rfl) (by simp) ?_
                    refine AllReadyH.cons (o := ⟨some 142, .buildSlice _ _ _, _, _, _, _⟩) rfl (fun K hK => ?_) AllReadyH.nil
                    refine step_slice_one w4 (by rfl) _ _ (by rfl) 50 _ 12 96 elemL (by decide) L0 HL0.out.1 (by rfl) ?_
                    have B5 := below_alloc1 (o := .cells L0.toArray 50) B4
                    have X5 := Box.new w4 50 L0
                    have O5 := hown4.alloc (.cells L0.toArray 50)
                    refine hK.out _ _ (SO.out _ (B5)) (fun hHeld => ?_)
                    clear hK K
                    try simp only [Act.put]
                    try simp only [List.setIfInBounds_toArray]
                    try simp only [List.set_cons_succ]
                    try simp only [List.set_cons_zero]
                    refine wpAnyH_ready (rs := [9]) (by kernel_rfl) (by simp) ?_
                    refine AllReadyH.cons (o := ⟨some 143, .call _, _, _, _, _⟩) rfl (fun K hK => ?_) AllReadyH.nil
                    refine step_append_big (w4.alloc (.cells L0.toArray 50)) (by rfl) _ _ _ (by rfl) w8.heap.size 50 _ 12 96 elemL (.slice A4 P k4) P C (by rfl) O5 w4.heap.size L0 (by rfl) HL0.out.1 (fun j u hu => by rw [Addr.add_mid, Nat.zero_add]; exact (X5.cell j).trans hu) HL0.out.2 (by unfold maxLen; omega) (by omega) B5.size ?_
                    intro g9 c9 w9 hown9 hg9 _
                    have B9 : Below w8.heap.size w8 w9 := B5.grown hg9 B5.size (fun k hk => (O5.lt k hk).1)
                    refine hK.out _ _ (SO.out _ (B9)) (fun hHeld => ?_)
                    clear hK K
                    try simp only [Act.put]
                    try simp only [List.setIfInBounds_toArray]
                    try simp only [List.set_cons_succ]
                    try simp only [List.set_cons_zero]
                    refine wpAnyH_ready (rs := [10]) (by kernel_rfl) (by simp) ?_
                    refine AllReadyH.cons (o := ⟨some 144, .call _, _, _, _, _⟩) rfl (fun K hK => ?_) AllReadyH.nil
                    go_simp
                    try rw [hwrn]
                    refine (HOt9.out (some ⟨g9, 0, none⟩) c9 w9 (Rd.own hown9)).mono ?_
                    rintro e w10 ⟨rfl, hb10⟩
                    have B10 := B9.trans (hb10.mono B9.size)
                    have L10 := Lib.hid (L8.out.on B10)
                    go_wp2_with fail
                    refine hK.out _ _ (SO.out _ (B10)) (fun hHeld => ?_)
                    clear hK K
                    try simp only [Act.put]
                    try simp only [List.setIfInBounds_toArray]
                    try simp only [List.set_cons_succ]
                    try simp only [List.set_cons_zero]
                    refine wpAnyH_take (i := 11) (v := ?v11qa) rfl (by kernel_rfl) (by kernel_rfl) (by kernel_rfl) (fun _ _ _ h => h) (Or.inl ⟨by rfl, ?hy11qa⟩) (by assumption) ?rest11qa
                    case hy11qa =>
                      intro w hSw
                      try dsimp only at hSw
                      go_simp
                      try with_reducible rfl
                    try simp only [Act.put]
                    try simp only [List.setIfInBounds_toArray]
                    try simp only [List.set_cons_succ]
                    try simp only [List.set_cons_zero]
                    refine wpAnyH_take (i := 12) (v := ?v12qa) rfl (by kernel_rfl) (by kernel_rfl) (by kernel_rfl) (fun _ _ _ h => h) (Or.inl ⟨by rfl, ?hy12qa⟩) (by assumption) ?rest12qa
                    case hy12qa =>
                      intro w hSw
                      try dsimp only at hSw
                      go_simp
                      try with_reducible rfl
                    try simp only [Act.put]
                    try simp only [List.setIfInBounds_toArray]
                    try simp only [List.set_cons_succ]
                    try simp only [List.set_cons_zero]
                    refine wpAnyH_take (i := 13) (v := ?v13qa) rfl (by kernel_rfl) (by kernel_rfl) (by kernel_rfl) (fun _ _ _ h => h) (Or.inl ⟨by rfl, ?hy13qa⟩) (by assumption) ?rest13qa
                    case hy13qa =>
                      intro w hSw
                      try dsimp only at hSw
                      go_simp
                      try with_reducible rfl
                    try simp only [Act.put]
                    try simp only [List.setIfInBounds_toArray]
                    try simp only [List.set_cons_succ]
                    try simp only [List.set_cons_zero]
                    refine wpAnyH_take (i := 14) (v := ?v14qa) rfl (by kernel_rfl) (by kernel_rfl) (by kernel_rfl) (fun _ _ _ h => h) (Or.inl ⟨by rfl, ?hy14qa⟩) (by assumption) ?rest14qa
                    case hy14qa =>
                      intro w hSw
                      try dsimp only at hSw
                      go_simp
                      try with_reducible rfl
                    try simp only [Act.put]
                    try simp only [List.setIfInBounds_toArray]
                    try simp only [List.set_cons_succ]
                    try simp only [List.set_cons_zero]
                    refine wpAnyH_take (i := 15) (v := ?v15qa) rfl (by kernel_rfl) (by kernel_rfl) (by kernel_rfl) (fun _ _ _ h => h) (Or.inl ⟨by rfl, ?hy15qa⟩) (by assumption) ?rest15qa
                    case hy15qa =>
                      intro w hSw
                      try dsimp only at hSw
                      go_simp
                      try with_reducible rfl
                    try simp only [Act.put]
                    try simp only [List.setIfInBounds_toArray]
                    try simp only [List.set_cons_succ]
                    try simp only [List.set_cons_zero]
                    refine wpAnyH_done (by kernel_rfl) ?_ _
                    clear hown9 hg9 B9 B10 hHeld hb10
                    go_wp2
                    go_ret
                    exact ⟨rfl, L10.out.1⟩
                  · skip
                    refine step_slice_one W1 (by rfl) _ _ (by rfl) 50 _ 12 96 elemL (by decide) L0 HL0.out.1 (by rfl) ?_
                    have B2 := below_alloc1 (o := .cells L0.toArray 50) B1
                    have X2 := Box.new W1 50 L0
                    have O2 := O1.alloc (.cells L0.toArray 50)
                    refine hK.out _ _ (SO.out _ (B2)) (fun hHeld => ?_)
                    clear hK K
                    try simp only [Act.put]
                    try simp only [List.setIfInBounds_toArray]
                    try simp only [List.set_cons_succ]
                    try simp only [List.set_cons_zero]
                    generalize W1.alloc (.cells L0.toArray 50) = W2 at B2 X2 O2 ⊢
                    generalize W1.heap.size = gE at S1 X2 ⊢
                    refine wpAnyH_ready (rs := [4]) (by kernel_rfl) (by simp) ?_
                    refine AllReadyH.cons (o := ⟨some 138, .call _, _, _, _, _⟩) rfl (fun K hK => ?_) AllReadyH.nil
                    refine step_append_rd W2 (by rfl) _ _ _ (by rfl) w8.heap.size 50 _ 12 96 elemL (.slice (some ⟨w8.heap.size, 0, none⟩) 0 0) 0 [] (by rfl) O2 w8.heap.size (some ⟨b, 0, none⟩) P P C (by rfl) HCl.out (RD.out _ B2) H1c.out (by unfold maxLen; omega) (by omega) B2.size ?_
                    intro v4 w4 hown4 hg4
                    obtain ⟨A4, k4, rfl⟩ := own_slice hown4
                    simp only [Nat.zero_add, List.nil_append] at hown4 ⊢
                    have B4 : Below w8.heap.size w8 w4 := B2.grown hg4 B2.size (fun k hk => (O2.lt k hk).1)
                    have X4 := X2.grown (g := w8.heap.size) hg4 (by omega)
                    refine hK.out _ _ (SO.out _ (B4)) (fun hHeld => ?_)
                    clear hK K
                    try simp only [Act.put]
                    try simp only [List.setIfInBounds_toArray]
                    try simp only [List.set_cons_succ]
                    try simp only [List.set_cons_zero]
                    refine wpAnyH_ready (rs := [9]) (by kernel_rfl) (by simp) ?_
                    refine AllReadyH.cons (o := ⟨some 143, .call _, _, _, _, _⟩) rfl (fun K hK => ?_) AllReadyH.nil
                    refine step_append_big w4 (by rfl) _ _ _ (by rfl) w8.heap.size 50 _ 12 96 elemL (.slice A4 P k4) P C (by rfl) hown4 gE L0 (by rfl) HL0.out.1 (fun j u hu => by rw [Addr.add_mid, Nat.zero_add]; exact (X4.cell j).trans hu) HL0.out.2 (by unfold maxLen; omega) (by omega) B4.size ?_
                    intro g9 c9 w9 hown9 hg9 _
                    have B9 : Below w8.heap.size w8 w9 := B4.grown hg9 B4.size (fun k hk => (hown4.lt k hk).1)
                    refine hK.out _ _ (SO.out _ (B9)) (fun hHeld => ?_)
                    clear hK K
                    try simp only [Act.put]
                    try simp only [List.setIfInBounds_toArray]
                    try simp only [List.set_cons_succ]
                    try simp only [List.set_cons_zero]
                    refine wpAnyH_ready (rs := [10]) (by kernel_rfl) (by simp) ?_
                    refine AllReadyH.cons (o := ⟨some 144, .call _, _, _, _, _⟩) rfl (fun K hK => ?_) AllReadyH.nil
                    go_simp
                    try rw [hwrn]
                    refine (HOt9.out (some ⟨g9, 0, none⟩) c9 w9 (Rd.own hown9)).mono ?_
                    rintro e w10 ⟨rfl, hb10⟩
                    have B10 := B9.trans (hb10.mono B9.size)
                    have L10 := Lib.hid (L8.out.on B10)
                    go_wp2_with fail
                    refine hK.out _ _ (SO.out _ (B10)) (fun hHeld => ?_)
                    clear hK K
                    try simp only [Act.put]
                    try simp only [List.setIfInBounds_toArray]
                    try simp only [List.set_cons_succ]
                    try simp only [List.set_cons_zero]
                    refine wpAnyH_take (i := 11) (v := ?v11qb) rfl (by kernel_rfl) (by kernel_rfl) (by kernel_rfl) (fun _ _ _ h => h) (Or.inl ⟨by rfl, ?hy11qb⟩) (by assumption) ?rest11qb
                    case hy11qb =>
                      intro w hSw
                      try dsimp only at hSw
                      go_simp
                      try with_reducible rfl
                    try simp only [Act.put]
                    try simp only [List.setIfInBounds_toArray]
                    try simp only [List.set_cons_succ]
                    try simp only [List.set_cons_zero]
                    refine wpAnyH_take (i := 12) (v := ?v12qb) rfl (by kernel_rfl) (by kernel_rfl) (by kernel_rfl) (fun _ _ _ h => h) (Or.inl ⟨by rfl, ?hy12qb⟩) (by assumption) ?rest12qb
                    case hy12qb =>
                      intro w hSw
                      try dsimp only at hSw
                      go_simp
                      try with_reducible rfl
                    try simp only [Act.put]
                    try simp only [List.setIfInBounds_toArray]
                    try simp only [List.set_cons_succ]
                    try simp only [List.set_cons_zero]
                    refine wpAnyH_take (i := 13) (v := ?v13qb) rfl (by kernel_rfl) (by kernel_rfl) (by kernel_rfl) (fun _ _ _ h => h) (Or.inl ⟨by rfl, ?hy13qb⟩) (by assumption) ?rest13qb
                    case hy13qb =>
                      intro w hSw
                      try dsimp only at hSw
                      go_simp
                      try with_reducible rfl
                    try simp only [Act.put]
                    try simp only [List.setIfInBounds_toArray]
                    try simp only [List.set_cons_succ]
                    try simp only [List.set_cons_zero]
                    refine wpAnyH_take (i := 14) (v := ?v14qb) rfl (by kernel_rfl) (by kernel_rfl) (by kernel_rfl) (fun _ _ _ h => h) (Or.inl ⟨by rfl, ?hy14qb⟩) (by assumption) ?rest14qb
                    case hy14qb =>
                      intro w hSw
                      try dsimp only at hSw
                      go_simp
                      try with_reducible rfl
                    try simp only [Act.put]
                    try simp only [List.setIfInBounds_toArray]
                    try simp only [List.set_cons_succ]
                    try simp only [List.set_cons_zero]
                    refine wpAnyH_take (i := 15) (v := ?v15qb) rfl (by kernel_rfl) (by kernel_rfl) (by kernel_rfl) (fun _ _ _ h => h) (Or.inl ⟨by rfl, ?hy15qb⟩) (by assumption) ?rest15qb
                    case hy15qb =>
                      intro w hSw
                      try dsimp only at hSw
                      go_simp
                      try with_reducible rfl
                    try simp only [Act.put]
                    try simp only [List.setIfInBounds_toArray]
                    try simp only [List.set_cons_succ]
                    try simp only [List.set_cons_zero]
                    refine wpAnyH_done (by kernel_rfl) ?_ _
                    clear hown9 hg9 B9 B10 hHeld hb10
                    go_wp2
                    go_ret
                    exact ⟨rfl, L10.out.1⟩
                · skip
                  refine step_slice_one w8.drew (by rfl) _ _ (by rfl) 50 _ 12 96 elemL (by decide) L0 HL0.out.1 (by rfl) ?_
                  have B1 := below_alloc1 (o := .cells L0.toArray 50) (Below.refl w8.heap.size w8).drew
                  have X1 := Box.new w8.drew 50 L0
                  refine hK.out _ _ (SO.out _ (B1)) (fun hHeld => ?_)
                  clear hK K
                  try simp only [Act.put]
                  try simp only [List.setIfInBounds_toArray]
                  try simp only [List.set_cons_succ]
                  try simp only [List.set_cons_zero]
                  generalize w8.drew.alloc (.cells L0.toArray 50) = W1 at B1 X1 ⊢
                  generalize w8.drew.heap.size = gE at X1 ⊢
                  refine wpAnyH_ready (rs := [2]) (by kernel_rfl) (by simp) ?_
                  refine AllReadyH.cons (o := ⟨some 136, .buildSlice _ _ _, _, _, _, _⟩) rfl (fun K hK => ?_) AllReadyH.nil
                  go_simp
                  have B2 := below_alloc1 (o := .cells #[] 50) B1
                  have X2 : Box (W1.alloc (.cells #[] 50)) gE 50 L0 := X1.below ((Below.refl _ _).alloc (Nat.le_refl _) _) X1.lt
                  have O2 := own_base0 (OW1.out W1) B1.size
                  have S2 := X1.lt
                  refine hK.out _ _ (SO.out _ (B2)) (fun hHeld => ?_)
                  clear hK K
                  try simp only [Act.put]
                  try simp only [List.setIfInBounds_toArray]
                  try simp only [List.set_cons_succ]
                  try simp only [List.set_cons_zero]
                  generalize hW2 : W1.alloc (.cells #[] 50) = W2 at B2 X2 O2 ⊢
                  generalize W1.heap.size = g2 at O2 S2 ⊢
                  refine wpAnyH_ready (rs := [4]) (by kernel_rfl) (by simp) ?_
                  refine AllReadyH.cons (o := ⟨some 138, .call _, _, _, _, _⟩) rfl (fun K hK => ?_) AllReadyH.nil
                  refine step_append_rd W2 (by rfl) _ _ _ (by rfl) w8.heap.size 50 _ 12 96 elemL (.slice (some ⟨g2, 0, none⟩) 0 0) 0 [] (by rfl) O2 w8.heap.size (some ⟨b, 0, none⟩) P P C (by rfl) HCl.out (RD.out _ B2) H1c.out (by unfold maxLen; omega) (by omega) B2.size ?_
                  intro v4 w4 hown4 hg4
                  obtain ⟨A4, k4, rfl⟩ := own_slice hown4
                  simp only [Nat.zero_add, List.nil_append] at hown4 ⊢
                  have B4 : Below w8.heap.size w8 w4 := B2.grown hg4 B2.size (fun k hk => (O2.lt k hk).1)
                  have X4 := X2.grown (g := g2) hg4 (by omega)
                  refine hK.out _ _ (SO.out _ (B4)) (fun hHeld => ?_)
                  clear hK K
                  try simp only [Act.put]
                  try simp only [List.setIfInBounds_toArray]
                  try simp only [List.set_cons_succ]
                  try simp only [List.set_cons_zero]
                  refine wpAnyH_ready (rs := [9]) (by kernel_rfl) (by simp) ?_
                  refine AllReadyH.cons (o := ⟨some 143, .call _, _, _, _, _⟩) rfl (fun K hK => ?_) AllReadyH.nil
                  refine step_append_big w4 (by rfl) _ _ _ (by rfl) w8.heap.size 50 _ 12 96 elemL (.slice A4 P k4) P C (by rfl) hown4 gE L0 (by rfl) HL0.out.1 (fun j u hu => by rw [Addr.add_mid, Nat.zero_add]; exact (X4.cell j).trans hu) HL0.out.2 (by unfold maxLen; omega) (by omega) B4.size ?_
                  intro g9 c9 w9 hown9 hg9 _
                  have B9 : Below w8.heap.size w8 w9 := B4.grown hg9 B4.size (fun k hk => (hown4.lt k hk).1)
                  refine hK.out _ _ (SO.out _ (B9)) (fun hHeld => ?_)
                  clear hK K
                  try simp only [Act.put]
                  try simp only [List.setIfInBounds_toArray]
                  try simp only [List.set_cons_succ]
                  try simp only [List.set_cons_zero]
                  refine wpAnyH_ready (rs := [10]) (by kernel_rfl) (by simp) ?_
                  refine AllReadyH.cons (o := ⟨some 144, .call _, _, _, _, _⟩) rfl (fun K hK => ?_) AllReadyH.nil
                  go_simp
                  try rw [hwrn]
                  refine (HOt9.out (some ⟨g9, 0, none⟩) c9 w9 (Rd.own hown9)).mono ?_
                  rintro e w10 ⟨rfl, hb10⟩
                  have B10 := B9.trans (hb10.mono B9.size)
                  have L10 := Lib.hid (L8.out.on B10)
                  go_wp2_with fail
                  refine hK.out _ _ (SO.out _ (B10)) (fun hHeld => ?_)
                  clear hK K
                  try simp only [Act.put]
                  try simp only [List.setIfInBounds_toArray]
                  try simp only [List.set_cons_succ]
                  try simp only [List.set_cons_zero]
                  refine wpAnyH_take (i := 11) (v := ?v11qc) rfl (by kernel_rfl) (by kernel_rfl) (by kernel_rfl) (fun _ _ _ h => h) (Or.inl ⟨by rfl, ?hy11qc⟩) (by assumption) ?rest11qc
                  case hy11qc =>
                    intro w hSw
                    try dsimp only at hSw
                    go_simp
                    try with_reducible rfl
                  try simp only [Act.put]
                  try simp only [List.setIfInBounds_toArray]
                  try simp only [List.set_cons_succ]
                  try simp only [List.set_cons_zero]
                  refine wpAnyH_take (i := 12) (v := ?v12qc) rfl (by kernel_rfl) (by kernel_rfl) (by kernel_rfl) (fun _ _ _ h => h) (Or.inl ⟨by rfl, ?hy12qc⟩) (by assumption) ?rest12qc
                  case hy12qc =>
                    intro w hSw
                    try dsimp only at hSw
                    go_simp
                    try with_reducible rfl
                  try simp only [Act.put]
                  try simp only [List.setIfInBounds_toArray]
                  try simp only [List.set_cons_succ]
                  try simp only [List.set_cons_zero]
                  refine wpAnyH_take (i := 13) (v := ?v13qc) rfl (by kernel_rfl) (by kernel_rfl) (by kernel_rfl) (fun _ _ _ h => h) (Or.inl ⟨by rfl, ?hy13qc⟩) (by assumption) ?rest13qc
                  case hy13qc =>
                    intro w hSw
                    try dsimp only at hSw
                    go_simp
                    try with_reducible rfl
                  try simp only [Act.put]
                  try simp only [List.setIfInBounds_toArray]
                  try simp only [List.set_cons_succ]
                  try simp only [List.set_cons_zero]
                  refine wpAnyH_take (i := 14) (v := ?v14qc) rfl (by kernel_rfl) (by kernel_rfl) (by kernel_rfl) (fun _ _ _ h => h) (Or.inl ⟨by rfl, ?hy14qc⟩) (by assumption) ?rest14qc
                  case hy14qc =>
                    intro w hSw
                    try dsimp only at hSw
                    go_simp
                    try with_reducible rfl
                  try simp only [Act.put]
                  try simp only [List.setIfInBounds_toArray]
                  try simp only [List.set_cons_succ]
                  try simp only [List.set_cons_zero]
                  refine wpAnyH_take (i := 15) (v := ?v15qc) rfl (by kernel_rfl) (by kernel_rfl) (by kernel_rfl) (fun _ _ _ h => h) (Or.inl ⟨by rfl, ?hy15qc⟩) (by assumption) ?rest15qc
                  case hy15qc =>
                    intro w hSw
                    try dsimp only at hSw
                    go_simp
                    try with_reducible rfl
                  try simp only [Act.put]
                  try simp only [List.setIfInBounds_toArray]
                  try simp only [List.set_cons_succ]
                  try simp only [List.set_cons_zero]
                  refine wpAnyH_done (by kernel_rfl) ?_ _
                  clear hown9 hg9 B9 B10 hHeld hb10
                  go_wp2
                  go_ret
                  exact ⟨rfl, L10.out.1⟩
end Go.Proofs.Ytcligeajgbibnaa

/-
  The law Keeps of layer 17.
-/
import Derived.Test.YtjjomfpkdbfhdaaSnL
namespace Go.Proofs.Ytjjomfpkdbfhdaa
open Go.RowKit Word Snap
set_option linter.unusedVariables false

theorem ols_set_data (l : List Ol) (k : Nat) (z : Int) (h : k < l.length) (hin : ∀ o ∈ l, OIn o) : (ols l).set (k * 34 + 2) (.int .u8 z) = ols (l.set k ⟨(l[k]'h).b, (l[k]'h).has, (l[k]'h).data.set 0 z⟩) := by
  induction l generalizing k with
  | nil => simp at h
  | cons y l ih =>
    have hy := ocs_len (hin y List.mem_cons_self)
    rw [ols_cons]
    cases k with
    | zero =>
      rw [List.set_append_left _ _ (by omega)]
      show (ocs y).set 2 _ ++ ols l = ols (⟨y.b, y.has, y.data.set 0 z⟩ :: l)
      rw [ols_cons]
      simp [ocs, bs, List.map_set]
    | succ k =>
      rw [List.set_append_right _ _ (by omega), hy, show (k + 1) * 34 + 2 - 34 = k * 34 + 2 by omega, ih k (by simpa using h) fun o ho => hin o (List.mem_cons_of_mem _ ho)]
      rfl
theorem ols_set_has (l : List Ol) (k : Nat) (z : Bool) (h : k < l.length) (hin : ∀ o ∈ l, OIn o) : (ols l).set (k * 34 + 1) (.bool z) = ols (l.set k ⟨(l[k]'h).b, z, (l[k]'h).data⟩) := by
  induction l generalizing k with
  | nil => simp at h
  | cons y l ih =>
    have hy := ocs_len (hin y List.mem_cons_self)
    rw [ols_cons]
    cases k with
    | zero =>
      rw [List.set_append_left _ _ (by omega)]
      rfl
    | succ k =>
      rw [List.set_append_right _ _ (by omega), hy, show (k + 1) * 34 + 1 - 34 = k * 34 + 1 by omega, ih k (by simpa using h) fun o ho => hin o (List.mem_cons_of_mem _ ho)]
      rfl
theorem in_set {l : List Ol} {k : Nat} {o : Ol} (hin : ∀ o ∈ l, OIn o) (ho : OIn o) : ∀ x ∈ l.set k o, OIn x := fun x hx => by
  rcases List.mem_or_eq_of_mem_set hx with h | rfl
  · exact hin x h
  · exact ho
/-- a row of the call's own is no part of the snapshots -/
theorem own_tri {w : World} {d b c m base n s : Nat} {all : List (List Ol)} {g : Nat} {V : Value} {xs : List Value} (t : SnIs w d b c m all g) (ho : w.ownsRow base 38 s V n xs) : ∀ k, V.ownBlock = some k → ¬ Tri d b c k := by
  intro k hk
  obtain ⟨_, cur, h1⟩ := own_type ho hk
  obtain ⟨f, hm, _⟩ := t.raw.ls
  rintro (h | h | h) <;> subst h
  · exact Box.ne_row t.raw.bx ho hk (by decide) rfl
  · obtain ⟨es, ck, h2⟩ := hm.is_map
    rw [h1] at h2
    cases h2
  · obtain ⟨es, ck, h2⟩ := t.raw.kp.is_map
    rw [h1] at h2
    cases h2
theorem own_turn {w w' : World} {d b c m base n s : Nat} {all : List (List Ol)} {g : Nat} {V : Value} {xs : List Value} (t : SnIs w d b c m all g) (ho : w.ownsRow base 38 s V n xs) (hf : Fr (Tri d b c) w w') : w'.ownsRow base 38 s V n xs :=
  own_same ho fun k hk => hf.same (ho.lt k hk).2 (own_tri t ho k hk)
theorem SnIs.stored {w : World} {d b c m base n s gb o : Nat} {all : List (List Ol)} {g cv : Nat} {xs : List Value} {v : Value} (t : SnIs w d b c m all g) (ho : w.ownsRow base 38 s (.slice (some ⟨gb, 0, none⟩) n cv) n xs) : SnIs (w.setCell ⟨gb, o, none⟩ v) d b c m all g := by
  have h := own_tri t ho gb rfl
  exact t.beside (Fr.of_setCell w ⟨gb, o, none⟩ v (T := fun k => k = gb) rfl) (fun e => h (.inl e.symm)) (fun e => h (.inr (.inl e.symm))) (fun e => h (.inr (.inr e.symm)))
theorem Own.stored {w wr : World} {d b c m base n s gb o : Nat} {all : List (List Ol)} {g cv : Nat} {xs : List Value} {v : Value} (t : Own w wr d b c m all g) (ho : wr.ownsRow base 38 s (.slice (some ⟨gb, 0, none⟩) n cv) n xs) (hb : w.heap.size ≤ base) : Own w (wr.setCell ⟨gb, o, none⟩ v) d b c m all g :=
  ⟨t.sn.stored ho, t.d, t.b, t.c, t.below.setCell (by have := (ho.lt gb rfl).1; show w.heap.size ≤ gb; omega) v⟩
theorem xor_u8 (z : Int) : ∃ z', ∀ W, (binOp .xor 5 (.int .u8 z) (.int .u8 255)).run Try.prog W = .ok (.int .u8 z') W := ⟨bits .xor .u8 z 255, fun W => by go_simp⟩
set_option maxRecDepth 100000 in
set_option maxHeartbeats 4000000 in
theorem snlaw_keeps (A : Option Addr) (n cap : Nat) (l : List Ol) (z : Int) (w : World) (hz : W64 z) (hn : n ≤ maxLen) (hl : l.length = n) (hin : ∀ o ∈ l, OIn o) (hr : Rd w w.heap.size A (ols l)) :
    Calls Try.prog 6 #[.slice A n cap, .int .i64 z] w fun e w' => e = .returned (.bool true) ∧ Below w.heap.size w w' := by
  have HZ := Lib.hid hz
  have QW := Lib.hid fun w' => awake17_any w'
  have HN := Lib.hid (And.intro hl (And.intro hin hr))
  unfold maxLen at hn
  clear hz hl hin hr
  go_enter Try.func6, Try.ntmps6
  go_wp2_with fail
  refine (QW.out _).mono ?_
  rintro e w1 ⟨rfl, hb1⟩
  have H1 := Lib.hid hb1
  clear hb1
  by_cases hfew : (n : Int) ≤ 60
  · have hfd : decide ((60 : Int) < (n : Int)) = false := decide_eq_false (by omega)
    have hfd2 : decide (60 < n) = false := decide_eq_false (by omega)
    have HRd := Lib.hid ((HN.out.2.2.below H1.out).more H1.out.size)
    have HC := Lib.hid (show (ols l).length = n * 34 by rw [ols_length HN.out.2.1, HN.out.1])
    have OWL : Hid ((w1.alloc (.cells #[] 38)).ownsRow w1.heap.size 38 34 (.slice (some ⟨w1.heap.size, 0, none⟩) 0 0) 0 []) := Lib.hid (World.ownsRow_lit (e := 38) (size := 34) w1 #[] 0 (Nat.le_refl _) (by decide) (by simp))
    go_wp2_with (first
      | (at_builtin; go_loud (refine wpList_append_rd _ rfl _ _ _ rfl w1.heap.size 38 _ 34 48 elemO (.slice (some ⟨w1.heap.size, 0, none⟩) 0 0) 0 [] rfl OWL.out w1.heap.size A n cap (ols l) rfl HC.out (HRd.out.alloc (Nat.le_refl _) _) (ols_one l) (by unfold maxLen; omega) (by omega) (by simp) ?_); go_loud (intro V w2 hown hg2 _; have B2 : Below w1.heap.size w1 w2 := ((Below.refl w1.heap.size w1).alloc (Nat.le_refl _) _).grown hg2 (by simp) (fun k hk => by have h5 : w1.heap.size = k := (by injection hk); omega); rw [Nat.zero_add, List.nil_append] at hown; have H2 := Lib.hid (And.intro (bthen H1.out B2) hown); clear hown hg2 B2))
      | fail)
    obtain ⟨Av, cv, rfl⟩ := own_slice H2.out.2
    clear OWL
    refine (snew_any _).mono ?_
    rintro e w3 ⟨d, b, c, rfl, hs, q1, q2, q3, hb⟩
    have H3 : Hid (Own w w3 d b c 0 [] 0 ∧ w3.ownsRow w1.heap.size 38 34 (.slice Av n cv) n (ols l)) := Lib.hid ⟨⟨hs, Nat.le_trans H2.out.1.size q1, Nat.le_trans H2.out.1.size q2, Nat.le_trans H2.out.1.size q3, bthen H2.out.1 hb⟩, own_below H2.out.2 hb⟩
    clear hs q1 q2 q3 hb
    go_wp2_with fail
    refine (commit_any d b c 0 [] 0 Av n cv l w3 H3.out.1.sn HN.out.1 HN.out.2.1 (Rd.own H3.out.2) (by omega) (by simp)).mono ?_
    rintro e w4 ⟨rfl, hs, hf⟩
    have H4 : Hid (Own w w4 d b c n [l] 0 ∧ w4.ownsRow w1.heap.size 38 34 (.slice Av n cv) n (ols l)) := Lib.hid ⟨by
      have := H3.out.1.turn hs hf
      rw [Nat.zero_add] at this
      exact this, own_turn H3.out.1.sn H3.out.2 hf⟩
    clear hs hf
    obtain ⟨m3, hm3, hsz⟩ := big_size (P := Try.prog) (t := 38) (s := 34) (by kernel_rfl)
    have hm30 : ¬ m3 = 0 := by omega
    have HM := Lib.hid hm3
    clear hm3
    go_wp2
    go_loopw [7] (fun i wr => ∃ k : Nat, k ≤ n ∧ i = .int .i64 k ∧ Own w wr d b c n [l] 0 ∧ wr.ownsRow w1.heap.size 38 34 (.slice Av n cv) n (ols l)) (fun i _ => n - (intOf i).toNat)
    case atStart => exact ⟨0, Nat.zero_le _, rfl, H4.out.1, H4.out.2⟩
    case round =>
      obtain ⟨k, hk, rfl, hst, hown⟩ := hrel
      have HS := Lib.hid (And.intro hst hown)
      clear hst hown H4
      by_cases hlt : k < n
      · have hki : (k : Int) < (n : Int) := by omega
        have hkl : k < l.length := by rw [HN.out.1]; exact hlt
        have hlk : l[k]? = some (l[k]'hkl) := List.getElem?_eq_getElem hkl
        obtain ⟨g, rfl, hgb, hgl⟩ := own_at HS.out.2 (by omega)
        obtain ⟨ad, rfl, hadb⟩ := ol_some (HN.out.2.2.below HS.out.1.below) HN.out.2.1 hlk
        have hl1 : ∀ q : Nat, (loadCellsFrom (ad.add (k * m3)) 0 m3 #[]).run Try.prog (wr.drewN q) = .ok (ocs (l[k]'hkl)).toArray (wr.drewN q) := fun q => by
          obtain ⟨ad', e', h, _⟩ := ol_load (m := m3) (w := wr.drewN q) (HN.out.2.2.below (below_draws HS.out.1.below q)) HN.out.2.1 hlk HM.out
          obtain rfl : ad = ad' := by injection e'
          exact h
        have hl2 : ∀ q : Nat, (loadCellsFrom ((⟨g, 0, none⟩ : Addr).add (k * m3)) 0 m3 #[]).run Try.prog (wr.drewN q) = .ok (ocs (l[k]'hkl)).toArray (wr.drewN q) := fun q => by
          obtain ⟨ad', e', h, _⟩ := ol_load (m := m3) (w := wr.drewN q) (Rd.own HS.out.2) HN.out.2.1 hlk HM.out
          obtain rfl : (⟨g, 0, none⟩ : Addr) = ad' := by injection e'
          exact h
        have ho := HN.out.2.1 _ (List.getElem_mem hkl)
        generalize l[k]'hkl = o at *
        have hneq : ∀ W, (binOp .neq 38 (.agg (ocs o).toArray) (.agg (ocs o).toArray)).run Try.prog W = .ok (.bool false) W := fun W => by rw [neq_old W o o ho ho, (olEq_iff o o).2 rfl]; rfl
        have e0 : (⟨g, 0, none⟩ : Addr).add (k * m3) = ⟨g, k * m3, none⟩ := by
          unfold Addr.add
          by_cases h0 : k * m3 = 0 <;> simp [h0]
        rw [e0] at hl2
        clear hlk hkl hgb hgl hadb ho e0
        go_wp2_with fail
        go_quiet (fail)
        have H5 : Hid (Own w (wr.drewN nq) d b c n [l] 0 ∧ (wr.drewN nq).ownsRow w1.heap.size 38 34 (.slice (some ⟨g, 0, none⟩) n cv) n (ols l)) := Lib.hid ⟨⟨⟨HS.out.1.sn.raw.drewN nq, HS.out.1.sn.le⟩, HS.out.1.d, HS.out.1.b, HS.out.1.c, below_draws HS.out.1.below nq⟩, HS.out.2⟩
        clear hl1 hl2 hneq HS
        generalize wr.drewN nq = w5 at H5 ⊢
        go_wp2
        go_roundw
        case rel => exact ⟨k + 1, by omega, by go_num, H5.out.1, H5.out.2⟩
        case measure => first | (simp [intOf]; done) | (simp [intOf]; omega)
      · obtain rfl : n = k := by omega
        have HQ : Hid (OIn ((rdF [l] z (from_ 0 0)).getD ol0)) := Lib.hid (rdF_in HS.out.1.sn (Nat.zero_le _))
        have HC1 := Lib.hid fun (w' : World) (t : SnIs w' d b c n [l] 0) => read_any d b c n [l] 0 z 0 w' t HZ.out (by simp)
        unfold rdv at HC1
        generalize (rdF [l] z (from_ 0 0)).isSome = s at *
        generalize (rdF [l] z (from_ 0 0)).getD ol0 = q at *
        have heq : ∀ W, (binOp .eql 38 (.agg (ocs q).toArray) (.agg (ocs q).toArray)).run Try.prog W = .ok (.bool true) W := fun W => by rw [eql_old W q q HQ.out HQ.out, (olEq_iff q q).2 rfl]
        go_wp2_with fail
        refine (HC1.out _ HS.out.1.sn).mono ?_
        rintro e w5 ⟨rfl, hb⟩
        have H5 := Lib.hid (And.intro (HS.out.1.on hb) (own_below HS.out.2 hb))
        clear hb
        go_wp2_with (first
          | ((with_reducible refine wpList_ol_alloc (o := ⟨some 8, .alloc _, _, _, _, _⟩) rfl rfl ?_); intro w7 x7 hB7 hs7; clear hs7)
          | ((with_reducible refine wpList_ol_store (o := ⟨none, .store _ (.tmp 8) _, _, _, _, _⟩) rfl _ _ rfl w5.heap.size q ol0 HQ.out ol0_in rfl rfl x7 ?_); go_loud (intro w8 x8 hg8 _; have K8 := below_stored hB7 hg8 hB7.size (Nat.le_refl _); have H8 : Hid (Own w w8 d b c n [l] 0 ∧ Box w8 w5.heap.size 38 (ocs q) ∧ (∀ k, (Value.slice Av n cv).ownBlock = some k → k ≠ w5.heap.size) ∧ ∃ l', l'.length = n ∧ (∀ o ∈ l', OIn o) ∧ w8.ownsRow w1.heap.size 38 34 (.slice Av n cv) n (ols l')) := Lib.hid ⟨H5.out.1.on K8, x8, fun k hk => by have := (H5.out.2.lt k hk).2; omega, l, HN.out.1, HN.out.2.1, own_below H5.out.2 K8⟩; clear x7 hB7 hg8 x8 K8; generalize w5.heap.size = ba at *))
          | fail)
        clear HS H5 HC
        go_loopw [10] (fun i wr => ∃ k : Nat, k ≤ n ∧ i = .int .i64 k ∧ Own w wr d b c n [l] 0 ∧ Box wr ba 38 (ocs q) ∧ (∀ k, (Value.slice Av n cv).ownBlock = some k → k ≠ ba) ∧ ∃ l', l'.length = n ∧ (∀ o ∈ l', OIn o) ∧ wr.ownsRow w1.heap.size 38 34 (.slice Av n cv) n (ols l')) (fun i _ => n - (intOf i).toNat)
        case atStart => exact ⟨0, Nat.zero_le _, rfl, H8.out⟩
        case round =>
          obtain ⟨k, hk, rfl, hst, hbx, hne, l', hl', hin', hown⟩ := hrel
          have HT := Lib.hid (And.intro hst (And.intro hbx (And.intro hne (And.intro hl' (And.intro hin' hown)))))
          clear hst hbx hne hown H8
          by_cases hlt : k < n
          · have hki : (k : Int) < (n : Int) := by omega
            have hkl : k < l'.length := by rw [hl']; exact hlt
            obtain ⟨g, rfl, hgb, hgl⟩ := own_at HT.out.2.2.2.2.2 (by omega)
            have hlk : l'[k]? = some (l'[k]'hkl) := List.getElem?_eq_getElem hkl
            have hoin := hin' _ (List.getElem_mem hkl)
            have HSD := Lib.hid fun z' => ols_set_data l' k z' hkl hin'
            have hcat : ∀ (j : Nat) (v : Value), (ocs (l'[k]'hkl))[j]? = some v → j < 34 → wr.cell? ⟨g, k * m3 + j, none⟩ = some v := fun j v hv hj => by
              rw [HM.out]
              exact (HT.out.2.2.2.2.2.cellAt (k * 34 + j) (by omega)).trans (ols_at hin' hlk hv)
            generalize l'[k]'hkl = o at *
            obtain ⟨ob, oh, od⟩ := o
            obtain ⟨z0, zs, hod⟩ : ∃ z0 zs, od = z0 :: zs := by
              cases od with
              | nil => simp [OIn] at hoin
              | cons z0 zs => exact ⟨z0, zs, rfl⟩
            subst hod
            have k2 : wr.cell? ⟨g, k * m3 + 2, none⟩ = some (.int .u8 z0) := hcat 2 _ rfl (by decide)
            have f2 : wr.frozen? ⟨g, k * m3 + 2, none⟩ = false := HT.out.2.2.2.2.2.frozenAt _
            clear hcat
            go_wp2_with fail
            go_region
            generalize bits .xor .u8 z0 255 = z1
            have hz1 : OIn ⟨ob, oh, z1 :: zs⟩ := ⟨by simpa using hoin.1, hoin.2⟩
            have H6 : Hid (Own w (wr.setCell ⟨g, k * m3 + 2, none⟩ (.int .u8 z1)).drew d b c n [l] 0 ∧ Box (wr.setCell ⟨g, k * m3 + 2, none⟩ (.int .u8 z1)).drew ba 38 (ocs q) ∧ (wr.setCell ⟨g, k * m3 + 2, none⟩ (.int .u8 z1)).drew.ownsRow w1.heap.size 38 34 (.slice (some ⟨g, 0, none⟩) n cv) n (ols (l'.set k ⟨ob, oh, z1 :: zs⟩))) := Lib.hid (by
              have ho := HT.out.1.stored (o := k * m3 + 2) (v := .int .u8 z1) HT.out.2.2.2.2.2 H1.out.size
              refine ⟨⟨⟨ho.sn.raw.drewN 1, ho.sn.le⟩, ho.d, ho.b, ho.c, ho.below.drew⟩, HT.out.2.1.same (Below.heap_setCell _ _ _ _ (fun e => HT.out.2.2.1 g rfl e.symm)), ?_⟩
              have hs := (HT.out.2.2.2.2.2.stored (k * m3 + 2) (.int .u8 z1)).1
              have e3 : (ols l').set (k * m3 + 2) (.int .u8 z1) = ols (l'.set k ⟨ob, oh, z1 :: zs⟩) := by rw [HM.out, HSD.out]; rfl
              rw [e3] at hs
              exact hs)
            have hl2 : (l'.set k ⟨ob, oh, z1 :: zs⟩).length = n := by simp [hl']
            have hin2 := in_set (k := k) hin' hz1
            have hkl2 : k < (l'.set k ⟨ob, oh, z1 :: zs⟩).length := by rw [hl2]; exact hlt
            have hlk2 : (l'.set k ⟨ob, oh, z1 :: zs⟩)[k]? = some ⟨ob, oh, z1 :: zs⟩ := by rw [List.getElem?_set_self hkl]
            have hge2 : (l'.set k ⟨ob, oh, z1 :: zs⟩)[k]'hkl2 = ⟨ob, oh, z1 :: zs⟩ := by simp
            have HSH := Lib.hid fun z' => ols_set_has (l'.set k ⟨ob, oh, z1 :: zs⟩) k z' hkl2 hin2
            rw [hge2] at HSH
            have HNe := Lib.hid (And.intro HT.out.2.2.1 (And.intro hl2 hin2))
            have HZ1 := Lib.hid hz1
            clear k2 f2 HT HSD hlk hin' hl' hkl hgl hge2 hkl2 hl2 hin2 hz1
            generalize (wr.setCell _ _).drew = w9 at H6 ⊢
            generalize l'.set k ⟨ob, oh, z1 :: zs⟩ = l2 at *
            have k1 : w9.cell? ⟨g, k * m3 + 1, none⟩ = some (.bool oh) := by
              rw [HM.out]
              exact (H6.out.2.2.cellAt (k * 34 + 1) (by omega)).trans (ols_at HNe.out.2.2 hlk2 rfl)
            have f1 : w9.frozen? ⟨g, k * m3 + 1, none⟩ = false := H6.out.2.2.frozenAt _
            clear hlk2
            go_wp2
            have H7 : Hid (Own w (w9.setCell ⟨g, k * m3 + 1, none⟩ (.bool (!oh))) d b c n [l] 0 ∧ Box (w9.setCell ⟨g, k * m3 + 1, none⟩ (.bool (!oh))) ba 38 (ocs q) ∧ (w9.setCell ⟨g, k * m3 + 1, none⟩ (.bool (!oh))).ownsRow w1.heap.size 38 34 (.slice (some ⟨g, 0, none⟩) n cv) n (ols (l2.set k ⟨ob, !oh, z1 :: zs⟩))) := Lib.hid (by
              have ho := H6.out.1.stored (o := k * m3 + 1) (v := .bool (!oh)) H6.out.2.2 H1.out.size
              refine ⟨ho, H6.out.2.1.same (Below.heap_setCell _ _ _ _ (fun e => HNe.out.1 g rfl e.symm)), ?_⟩
              have hs := (H6.out.2.2.stored (k * m3 + 1) (.bool (!oh))).1
              have e3 : (ols l2).set (k * m3 + 1) (.bool (!oh)) = ols (l2.set k ⟨ob, !oh, z1 :: zs⟩) := by rw [HM.out, HSH.out]
              rw [e3] at hs
              exact hs)
            have HI7 := Lib.hid (in_set (k := k) (o := ⟨ob, !oh, z1 :: zs⟩) HNe.out.2.2 ⟨HZ1.out.1, HZ1.out.2⟩)
            clear k1 f1 H6
            generalize w9.setCell _ _ = w10 at H7 ⊢
            go_roundw
            case rel => exact ⟨k + 1, by omega, by go_num, H7.out.1, H7.out.2.1, HNe.out.1, l2.set k ⟨ob, !oh, z1 :: zs⟩, by simpa using HNe.out.2.1, HI7.out, H7.out.2.2⟩
            case measure => first | (simp [intOf]; done) | (simp [intOf]; omega)
          · go_wp2_with fail
            refine (HC1.out _ HT.out.1.sn).mono ?_
            rintro e w9 ⟨rfl, hb⟩
            have H9 := Lib.hid (And.intro (HT.out.1.on hb) (HT.out.2.1.on hb))
            clear hb
            go_wp2_with (first
              | ((with_reducible refine wpList_ol_alloc (o := ⟨some 11, .alloc _, _, _, _, _⟩) rfl rfl ?_); intro w7 x7 hB7 hs7; clear hs7)
              | ((with_reducible refine wpList_ol_store (o := ⟨none, .store _ (.tmp 11) _, _, _, _, _⟩) rfl _ _ rfl w9.heap.size q ol0 HQ.out ol0_in rfl rfl x7 ?_); go_loud (intro w13 x8 hg8 _; have K8 := below_stored hB7 hg8 hB7.size (Nat.le_refl _); have H13 := Lib.hid (H9.out.1.on K8); have hla := (H9.out.2.on K8).olAll HQ.out HM.out; have hlb := x8.olAll HQ.out HM.out; clear x7 hB7 hg8 x8 K8; generalize w9.heap.size = bb at *))
              | fail)
            go_ret
            exact ⟨ret_bool (by simp), H13.out.below⟩
  · have hfd : decide ((60 : Int) < (n : Int)) = true := decide_eq_true (by omega)
    have hfd2 : decide (60 < n) = true := decide_eq_true (by omega)
    go_wp2_with fail
    refine (QW.out _).mono ?_
    rintro e w9 ⟨rfl, hb9⟩
    have H9 := Lib.hid (bthen H1.out hb9)
    clear hb9
    go_wp2
    go_ret
    exact ⟨rfl, H9.out⟩
end Go.Proofs.Ytjjomfpkdbfhdaa

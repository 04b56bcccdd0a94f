/-
  The walk of the law DevLasts.
-/
import Derived.Test.YtdacdnpghngiiaaDevAw
namespace Go.Proofs.Ytdacdnpghngiiaa
open Go.RowKit Geom Zone Dev
set_option linter.unusedVariables false

/-- the measure, and the wreck, in variables of their own -/
def LwIn (w W : World) (gs ws : List Value) : Prop := Box W w.heap.size 23 gs ∧ Box W (w.heap.size + 1) 29 ws ∧ Below w.heap.size w W ∧ w.heap.size + 2 ≤ W.heap.size
theorem LwIn.on {w W W' : World} {gs ws : List Value} (h : LwIn w W gs ws) (hb : Below W.heap.size W W') : LwIn w W' gs ws := ⟨h.1.on hb, h.2.1.on hb, bthen h.2.2.1 hb, Nat.le_trans h.2.2.2 hb.size⟩
theorem LwIn.fr {w W W' : World} {gs ws : List Value} {T : Nat → Prop} (h : LwIn w W gs ws) (hT : ∀ k, T k → w.heap.size + 2 ≤ k) (hF : Fr T W W') : LwIn w W' gs ws :=
  ⟨h.1.same (hF.same h.1.lt fun ht => by have := hT _ ht; omega), h.2.1.same (hF.same h.2.1.lt fun ht => by have := hT _ ht; omega), h.2.2.1.trans (hF.below h.2.2.1.size fun k hk ht => by have := hT _ ht; omega), Nat.le_trans h.2.2.2 hF.size⟩
theorem LwIn.start {w w1 w2 : World} {gs ws : List Value} (x0 : Box w1 w.heap.size 23 gs) (hB1 : Below w.heap.size w w1) (hs1 : w1.heap.size = w.heap.size + 1) (x1 : Box w2 w1.heap.size 29 ws) (hB2 : Below w1.heap.size w1 w2) (hs2 : w2.heap.size = w1.heap.size + 1) : LwIn w w2 gs ws := by
  rw [hs1] at x1
  exact ⟨x0.below hB2 (by omega), x1, bthen hB1 hB2, by omega⟩

theorem page_length {D : Dv} (h : DvOk D) (a : Pl) : (pageD D a).length = 64 := by
  unfold pageD
  cases hn : newest D.cache a with
  | none => exact (unpg_get (h.pages a)).2
  | some i =>
    show (D.cache.getD i (0, 0, z64)).2.2.length = 64
    rw [List.getD_eq_getElem?_getD]
    cases hi : D.cache[i]? with
    | none => rfl
    | some c => exact h.wok c (List.mem_of_getElem? hi)
theorem tx_far {B k : Nat} (h : TX B [B, B + 1] k) : B + 2 ≤ k := by
  obtain ⟨h1, h2⟩ := h
  simp at h2
  omega
set_option maxRecDepth 100000 in
set_option maxHeartbeats 8000000 in
theorem law_lasts (conv soft seq size opn zb : Int) (A Am keepA : Option Addr) (n cap nm capm kn kc : Nat) (xs : List AD) (ps : List (List Int)) (keep : List Int) (soft0 tear : Int) (w : World) (hzb : 0 ≤ zb ∧ zb ≤ 255)
    (h64 : W64 conv ∧ W64 soft ∧ W64 seq ∧ W64 size ∧ W64 opn) (hx : ∀ x ∈ xs, AIn w x) (hxl : xs.length = n) (hxr : Rd w w.heap.size A (xs.flatMap acs)) (hp : ∀ p ∈ ps, p.length = 64) (hpl : ps.length = nm) (hpr : Rd w w.heap.size Am (ps.flatMap bs))
    (hnm : n ≤ maxLen ∧ nm ≤ maxLen) (kr : Rd w w.heap.size keepA (ints keep)) (kl : keep.length = kn) (kcap : kn ≤ kc) (kmc : kc ≤ maxLen) (k64 : ∀ y ∈ keep, W64 y) (t64 : W64 tear) :
    Calls Try.prog 3 #[.agg #[.int .i64 conv, .int .i64 soft, .int .i64 seq, .int .i64 size, .int .i64 opn], .slice A n cap, .int .u8 zb, .slice Am nm capm, .agg #[.slice keepA kn kc, .int .u64 soft0, .int .i64 tear]] w fun e w' => e = .returned (.bool true) ∧ Below w.heap.size w w' := by
  have HX := Lib.hid (And.intro hx (And.intro hxl hxr))
  have HPs := Lib.hid (And.intro hp (And.intro hpl hpr))
  have HKp := Lib.hid (And.intro kr (And.intro kl (And.intro kcap (And.intro kmc k64))))
  have H64 := Lib.hid h64
  have QW := Lib.hid fun w' => awake5_any w'
  have QL := Lib.hid fun w' => little_any conv soft seq size opn w' h64
  have hn1 := hnm.1
  have hn2 := hnm.2
  unfold maxLen at hn1 hn2
  clear hx hxl hxr hp hpl hpr hnm kr kl kcap kmc k64 h64
  go_enter Try.func3, Try.ntmps3
  go_wp2_with (first
    | ((with_reducible refine wpList_box_box _ (o := ⟨some 5, .box _ _, _, _, _, _⟩) rfl _ _ rfl [.int .i64 conv, .int .i64 soft, .int .i64 seq, .int .i64 size, .int .i64 opn] rfl ?_); intro w1 x0 hB1 hs1)
    | ((with_reducible refine wpList_box_box _ (o := ⟨some 9, .box _ _, _, _, _, _⟩) rfl _ _ rfl [.slice keepA kn kc, .int .u64 soft0, .int .i64 tear] rfl ?_); intro w2 x1 hB2 hs2; have L := LwIn.start x0 hB1 hs1 x1 hB2 hs2; rw [hs1]; clear hs1 hs2 x0 x1 hB1 hB2)
    | fail)
  refine (QW.out _).mono ?_
  rintro e w3 ⟨rfl, hb3⟩
  have HL := Lib.hid (L.on hb3)
  clear hb3 L
  have c0 := HL.out.1.cell 0
  have c1 := HL.out.1.cell 1
  have c2 := HL.out.1.cell 2
  have c3 := HL.out.1.cell 3
  have c4 := HL.out.1.cell 4
  simp only [List.getElem?_cons_zero, List.getElem?_cons_succ] at c0 c1 c2 c3 c4
  go_wp2_with fail
  refine (QL.out _).mono ?_
  rintro e w4 ⟨rfl, hb4⟩
  replace HL := Lib.hid (HL.out.on hb4)
  clear hb4 c0 c1 c2 c3 c4
  cases hli : littleB conv soft seq size opn with
  | false =>
    go_wp2_with fail
    refine (QW.out _).mono ?_
    rintro e w5 ⟨rfl, hb5⟩
    replace HL := Lib.hid (HL.out.on hb5)
    clear hb5
    go_wp2
    go_ret
    exact ⟨rfl, HL.out.2.2.1⟩
  | true =>
    by_cases h60 : 60 < n
    · have h60' : (60 : Int) < n := by omega
      go_wp2_with fail
      refine (QW.out _).mono ?_
      rintro e w5 ⟨rfl, hb5⟩
      replace HL := Lib.hid (HL.out.on hb5)
      clear hb5
      go_wp2
      go_ret
      exact ⟨rfl, HL.out.2.2.1⟩
    · by_cases h30 : 30 < nm
      · have h60' : ¬ (60 : Int) < n := by omega
        have h30' : (30 : Int) < nm := by omega
        go_wp2_with fail
        refine (QW.out _).mono ?_
        rintro e w5 ⟨rfl, hb5⟩
        replace HL := Lib.hid (HL.out.on hb5)
        clear hb5
        go_wp2
        go_ret
        exact ⟨rfl, HL.out.2.2.1⟩
      · have h60' : ¬ (60 : Int) < n := by omega
        have h30' : ¬ (30 : Int) < nm := by omega
        have hok : Ok conv soft seq size opn := by
          unfold littleB at hli
          simp only [Bool.and_eq_true] at hli
          exact of_decide_eq_true hli.1.1
        have c0 := HL.out.1.cell 0
        have c1 := HL.out.1.cell 1
        have c2 := HL.out.1.cell 2
        have c3 := HL.out.1.cell 3
        have c4 := HL.out.1.cell 4
        simp only [List.getElem?_cons_zero, List.getElem?_cons_succ] at c0 c1 c2 c3 c4
        have HOk := Lib.hid hok
        clear hli hok QW QL
        go_wp2_with fail
        have hps := HOk.out
        have g1 := hps.1
        have g2 := hps.2.1
        have g3 := hps.2.2.1
        clear hps
        refine (dnew_any conv soft seq size opn (conv + seq).toNat _ HOk.out (by omega)).mono ?_
        rintro e w5 ⟨d, rfl, hI, hb⟩
        have HN := Lib.hid (new_ok (n := (conv + seq).toNat) HOk.out (by omega))
        have HD := Lib.hid (show DvSt w w5 [w.heap.size, w.heap.size + 1] d (newD conv soft seq size opn (conv + seq).toNat) from ⟨hI.shrink fun k _ hk => ⟨by have := HL.out.2.2.2; omega, by simp; have := HL.out.2.2.2; omega⟩, bthen HL.out.2.2.1 hb, fun b hb' => by simp at hb'; have := HL.out.2.2.2; have := hb.size; omega⟩)
        replace HL := Lib.hid (HL.out.on hb)
        clear hI hb c0 c1 c2 c3 c4
        obtain ⟨D0, hD0⟩ : ∃ D0, newD conv soft seq size opn (conv + seq).toNat = D0 := ⟨_, rfl⟩
        have HG0 := Lib.hid (show D0.conv = conv ∧ D0.seq = seq from hD0 ▸ ⟨rfl, rfl⟩)
        rw [hD0] at HN HD
        clear hD0
        obtain ⟨m71, hm71, hsz71⟩ := big_size (P := Try.prog) (t := 40) (s := 71) (by kernel_rfl)
        have hm710 : ¬ m71 = 0 := by omega
        have HM71 := Lib.hid hm71
        clear hm71
        go_wp2_with fail
        go_loopw [12] (fun i wr => ∃ (k : Nat) (D : Dv), k ≤ n ∧ i = .int .i64 k ∧ DvN k D ∧ (D.conv = conv ∧ D.seq = seq) ∧ DvSt w wr [w.heap.size, w.heap.size + 1] d D ∧ LwIn w wr [.int .i64 conv, .int .i64 soft, .int .i64 seq, .int .i64 size, .int .i64 opn] [.slice keepA kn kc, .int .u64 soft0, .int .i64 tear]) (fun i _ => n - (intOf i).toNat)
        case atStart => exact ⟨0, D0, by omega, rfl, HN.out, HG0.out, HD.out, HL.out⟩
        case round =>
          clear HN HG0 HD HL
          obtain ⟨k, D, hk, rfl, hN, hG, hD, hL⟩ := hrel
          have HH := Lib.hid (And.intro hN (And.intro hG (And.intro hD hL)))
          clear hN hG hD hL
          by_cases hlt : k < n
          · obtain ⟨x, hxk⟩ : ∃ x, xs[k]? = some x := ⟨xs[k]'(by rw [HX.out.2.1]; exact hlt), List.getElem?_eq_getElem _⟩
            have hxm := List.mem_of_getElem? hxk
            obtain ⟨ad, rfl, hld⟩ := big_elem Try.prog (w := wr) (m := m71) ((HX.out.2.2.below HH.out.2.2.1.2.1).more HH.out.2.2.1.2.1.size) (fun y hy => (acs_length (HX.out.1 y hy).p).trans HM71.out.symm) (by omega) k x hxk
            have HA := Lib.hid (HX.out.1 x hxm)
            have HXX := HX
            clear hxk hxm
            go_wp2_with fail
            refine (play_any (T := TX w.heap.size [w.heap.size, w.heap.size + 1]) x (HA.out.at HH.out.2.2.1.2.1 fun k hk => hk.1) (by have := HH.out.1.c; omega) HH.out.2.2.1.hT HH.out.1.ok HH.out.2.2.1.1).mono ?_
            rintro e w7 ⟨rfl, hI, hF⟩
            have HR := Lib.hid (show DvN (k + 1) (playD D x).2 ∧ ((playD D x).2.conv = conv ∧ (playD D x).2.seq = seq) ∧ DvSt w w7 [w.heap.size, w.heap.size + 1] d (playD D x).2 ∧ LwIn w w7 [.int .i64 conv, .int .i64 soft, .int .i64 seq, .int .i64 size, .int .i64 opn] [.slice keepA kn kc, .int .u64 soft0, .int .i64 tear] from
              ⟨play_ok x HA.out.p HA.out.n HH.out.1 (by omega), ⟨(play_geo D x).1.trans HH.out.2.1.1, (play_geo D x).2.trans HH.out.2.1.2⟩, HH.out.2.2.1.next hI hF, HH.out.2.2.2.fr (fun k hk => tx_far hk) hF⟩)
            clear hI hF hld HH HA
            generalize (playD D x).2 = D' at HR
            generalize (playD D x).1 = ev
            go_wp2
            go_roundw
            case rel => exact ⟨k + 1, D', by omega, by go_num, HR.out⟩
            case measure => simp [intOf]; omega
          · obtain rfl : n = k := by omega
            have HN := Lib.hid (armD_ok (n := -1) (w64 (by decide) (by decide)) HH.out.1)
            go_wp2_with fail
            refine (arm_any (T := TX w.heap.size [w.heap.size, w.heap.size + 1]) (-1) HH.out.2.2.1.1).mono ?_
            rintro e w6 ⟨rfl, hI, hF⟩
            have HD := Lib.hid (HH.out.2.2.1.next hI hF)
            have HL := Lib.hid (HH.out.2.2.2.fr (fun k hk => tx_far hk) hF)
            have HG := Lib.hid HH.out.2.1
            have HN0 := Lib.hid HH.out.1
            clear hI hF HH
            go_wp2_with fail
            refine (flush_any (T := TX w.heap.size [w.heap.size, w.heap.size + 1]) HD.out.hT HN.out.ok HD.out.1).mono ?_
            rintro e w7 ⟨rfl, hI, hF⟩
            replace HD := Lib.hid (HD.out.next hI hF)
            replace HL := Lib.hid (HL.out.fr (fun k hk => tx_far hk) hF)
            clear hI hF
            cases hdn : D.down with
            | true =>
              rw [flush_down hdn] at HD ⊢
              have HB := Lib.hid HD.out.2.1
              obtain ⟨zv, lb, cv, nb, hb⟩ := HD.out.blk
              rw [hdn] at hb
              have HDn := Lib.hid (down_any hb)
              clear hb hdn
              go_wp2_with fail
              refine HDn.out.mono ?_
              rintro e w8 ⟨rfl, rfl⟩
              go_wp2
              go_ret
              exact ⟨rfl, HB.out⟩
            | false =>
              have HW := Lib.hid fun z => (flush_up hdn z).2
              rw [(flush_up hdn 0).1]
              have HN1 := Lib.hid (flush_ok HN.out (by omega))
              have HG1 := Lib.hid (show (flushD (armD D (-1))).2.conv = conv ∧ (flushD (armD D (-1))).2.seq = seq from ⟨((arm_geo D (-1)).trans (flush_geo _)).1.trans HG.out.1, ((arm_geo D (-1)).trans (flush_geo _)).2.trans HG.out.2⟩)
              clear hdn HN
              generalize (flushD (armD D (-1))).2 = D1 at *
              go_wp2_with fail
              -- which zone
              obtain ⟨zn, hzn, hzn2⟩ : ∃ zn : Nat, conv + zb % seq = zn ∧ (zn : Int) < conv + seq := by
                have h1 := Int.emod_nonneg zb (show seq ≠ 0 by omega)
                have h2 := Int.emod_lt_of_pos zb (show 0 < seq by omega)
                exact ⟨(conv + zb % seq).toNat, by omega, by omega⟩
              have hzn1 : conv ≤ zn := by
                have h1 := Int.emod_nonneg zb (show seq ≠ 0 by omega)
                omega
              have hz0 := hzb.1
              have hz1 := hzb.2
              have hsum : IntKind.i64.wrap (conv + zb % seq) = conv + zb % seq := IntWalk.i64_in _ (by omega)
              have hsq0 : ¬ seq = 0 := by omega
              refine wp_region_class (fun w' => LwIn w w' [.int .i64 conv, .int .i64 soft, .int .i64 seq, .int .i64 size, .int .i64 opn] [.slice keepA kn kc, .int .u64 soft0, .int .i64 tear] ∧ DvSt w w' [w.heap.size, w.heap.size + 1] d D1) (by kernel_rfl) (by kernel_rfl) ⟨HL.out.on (Below.refl _ _).drew, HD.out.drew⟩ ?_
              intro X hX f hf hg
              have c0 : ∀ x, (f x).cell? ⟨w.heap.size, 0, none⟩ = some (.int .i64 conv) := fun x => (hf x).1.1.cell 0
              have c2 : ∀ x, (f x).cell? ⟨w.heap.size, 2, none⟩ = some (.int .i64 seq) := fun x => (hf x).1.1.cell 2
              have Hf := Lib.hid hf
              clear hf hg HL HD
              try simp only [Act.put, List.setIfInBounds_toArray, List.set_cons_succ, List.set_cons_zero]
              repeat (go_big_quiet_step (fail))
              refine wpQuiet_nil ?_
              rintro _ ⟨x, rfl⟩
              have HD := Lib.hid (Hf.out x).2
              have HL := Lib.hid (Hf.out x).1
              clear c0 c2 Hf hX
              generalize f x = W1 at HD HL ⊢
              clear hsum hzn hzb hz0 hz1 X f x
              have hDn : (D1.n : Int) = conv + seq := by have := HN1.out.ok.ns; rw [HG1.out.1, HG1.out.2] at this; exact this
              have hLl : D1.L.length = D1.n := by have := HN1.out.ok.fit.1; rw [HG1.out.1, HG1.out.2] at this; omega
              have hzL : zn < D1.L.length := by omega
              have hzat : D1.L[zn]? = some (zat D1.L zn) := by
                unfold zat
                rw [Int.toNat_natCast, List.getD_eq_getElem?_getD, List.getElem?_eq_getElem hzL]
                rfl
              have hfz : 0 ≤ (zat D1.L zn).2 ∧ (zat D1.L zn).2 ≤ 256 := by
                have h1 : fitZ D1.conv D1.size zn (zat D1.L zn) := HN1.out.ok.fit.2.2 zn hzL
                have h2 := HN1.out.ok.ok.2.2.2.2.1
                unfold fitZ at h1
                omega
              obtain ⟨was, hwas⟩ : ∃ was, (zat D1.L zn).2 = was := ⟨_, rfl⟩
              have HW1 := Lib.hid (show WrI conv seq D1 zn was [] from by
                have h := HW.out zn
                have hp := h.point
                rw [hwas] at hp
                rw [HG.out.1, HG.out.2] at h
                have e : (zat D.L zn).2 = was := by have : was = (zat D.L zn).2 + ((0 : Nat) : Int) := hp; omega
                rw [e] at h
                exact h)
              rw [hwas] at hfz
              have hw0 := hfz.1
              have hw1 := hfz.2
              go_wp2_with fail
              refine (zones_dev (T := TX w.heap.size [w.heap.size, w.heap.size + 1]) HD.out.hT HN1.out.ok HD.out.1).mono ?_
              rintro e w8 ⟨g, c, rfl, hown, hb⟩
              have cz : w8.cell? ⟨g, zn * 2 + 1, none⟩ = some (.int .i64 was) := by
                rw [← hwas]
                exact (Rd.own hown).cell0 (zc_get1 hzat)
              have hzlt : (zn : Int) < D1.n := by omega
              replace HD := Lib.hid (HD.out.on hb)
              replace HL := Lib.hid (HL.out.on hb)
              have HWs := Lib.hid hwas
              clear hown hb hzat hfz hwas hLl hzL HW
              obtain ⟨m8, hm8, hsz8⟩ := big_size (P := Try.prog) (t := 38) (s := 64) (by kernel_rfl)
              have hm80 : ¬ m8 = 0 := by omega
              have HM8 := Lib.hid hm8
              clear hm8
              go_wp2_with fail
              have HI0 := Lib.hid (And.intro HN1.out (And.intro HW1.out (And.intro HD.out HL.out)))
              clear HN1 HG1 HW1 HD HL HN0 HG HWs
              go_loopw [15] (fun i wr => ∃ (j : Nat) (D : Dv), j ≤ nm ∧ i = .int .i64 j ∧ DvN (n + 1 + j) D ∧ WrI conv seq D zn was (ps.take j) ∧ DvSt w wr [w.heap.size, w.heap.size + 1] d D ∧ LwIn w wr [.int .i64 conv, .int .i64 soft, .int .i64 seq, .int .i64 size, .int .i64 opn] [.slice keepA kn kc, .int .u64 soft0, .int .i64 tear]) (fun i _ => nm - (intOf i).toNat)
              case atStart => exact ⟨0, D1, by omega, rfl, HI0.out.1, HI0.out.2.1, HI0.out.2.2.1, HI0.out.2.2.2⟩
              case round =>
                clear HI0
                obtain ⟨j, D2, hj, rfl, hN, hW, hD, hL⟩ := hrel
                have htk : (ps.take j).length = j := by simp [HPs.out.2.1]; omega
                by_cases hlt : j < nm
                · obtain ⟨p, hpj⟩ : ∃ p, ps[j]? = some p := ⟨ps[j]'(by rw [HPs.out.2.1]; exact hlt), List.getElem?_eq_getElem _⟩
                  obtain ⟨ad, rfl, hld⟩ := big_elem Try.prog (w := wr) (m := m8) ((HPs.out.2.2.below hD.2.1).more hD.2.1.size) (fun y hy => (by rw [bs_length, HPs.out.1 y hy, HM8.out])) (by omega) j p hpj
                  have hp64 := HPs.out.1 p (List.mem_of_getElem? hpj)
                  have HT := Lib.hid (show ps.take (j + 1) = ps.take j ++ [p] by rw [List.take_add_one, hpj]; rfl)
                  have hsum : IntKind.i64.wrap (was + (j : Int)) = was + (j : Int) := IntWalk.i64_in _ (by omega)
                  have HH := Lib.hid (And.intro hN (And.intro hW (And.intro hD (And.intro hL (And.intro hp64 htk)))))
                  clear hN hW hD hL hp64 htk hpj
                  go_wp2_with fail
                  refine (write_any (T := TX w.heap.size [w.heap.size, w.heap.size + 1]) ((zn : Int), was + (j : Int), p) HH.out.2.2.2.2.1 ⟨(w64 (by omega) (by omega) : W64 (zn : Int)), (w64 (by omega) (by omega) : W64 (was + (j : Int)))⟩ HH.out.2.2.1.hT HH.out.1.ok (by have := HH.out.1.c; omega) HH.out.2.2.1.1).mono ?_
                  rintro e w9 ⟨rfl, hI, hF⟩
                  have HD := Lib.hid (HH.out.2.2.1.next hI hF)
                  have HL := Lib.hid (HH.out.2.2.2.1.fr (fun k hk => tx_far hk) hF)
                  have HN := Lib.hid (write_ok ((zn : Int), was + (j : Int), p) HH.out.2.2.2.2.1 HH.out.1 (by omega))
                  clear hI hF hld
                  by_cases he : (writeD D2 ((zn : Int), was + (j : Int), p)).1 = 0
                  · have HW := Lib.hid (show WrI conv seq (writeD D2 ((zn : Int), was + (j : Int), p)).2 zn was (ps.take (j + 1)) from by
                      have h := wri_write (p := p) HH.out.2.1 HH.out.1.ok (by omega) (by omega) (by rw [HH.out.2.2.2.2.2]; exact he)
                      rw [HH.out.2.2.2.2.2] at h
                      rw [HT.out]
                      exact h)
                    rw [he]
                    clear he
                    generalize (writeD D2 ((zn : Int), was + (j : Int), p)).2 = D3 at HD HN HW
                    go_wp2
                    go_roundw
                    case rel => exact ⟨j + 1, D3, by omega, by go_num, by rw [show n + 1 + (j + 1) = n + 1 + j + 1 by omega]; exact HN.out, HW.out, HD.out, HL.out⟩
                    case measure => simp [intOf]; omega
                  · have HW := Lib.hid (wri_stop (c := ((zn : Int), was + (j : Int), p)) HH.out.2.1 he)
                    have htl := HH.out.2.2.2.2.2
                    generalize (writeD D2 ((zn : Int), was + (j : Int), p)).1 = ev at he ⊢
                    generalize (writeD D2 ((zn : Int), was + (j : Int), p)).2 = D3 at HD HN HW
                    generalize ps.take j = qs at HW htl
                    have hev : (ev == 0) = false := by simp [he]
                    clear HH HT he hsum hlt
                    go_wp2_with fail
                    refine (dclone_any (TX w.heap.size [w.heap.size, w.heap.size + 1]) d D3 _ HD.out.1 HN.out.ok).mono ?_
                    rintro e w10 ⟨d2, rfl, hI, hb⟩
                    have H2 := Lib.hid (HD.out.two hI hb)
                    replace HL := Lib.hid (HL.out.on hb)
                    clear hI hb HD cz
                    have cw0 := HL.out.2.1.cell 0
                    have cw1 := HL.out.2.1.cell 1
                    have cw2 := HL.out.2.1.cell 2
                    simp only [List.getElem?_cons_zero, List.getElem?_cons_succ] at cw0 cw1 cw2
                    go_wp2_with fail
                    obtain ⟨T, hT1, hT2, hT3, hT4⟩ := H2.out.step
                    refine (crash_any T D3 keepA kn kc keep soft0 tear hT1 HN.out.ok hT2 ((HKp.out.1.below HL.out.2.2.1).more HL.out.2.2.1.size) HKp.out.2.1 HKp.out.2.2.1 HKp.out.2.2.2.1 HKp.out.2.2.2.2 (keep_far HKp.out.1 fun k hk => (hT3 k hk).1)).mono ?_
                    rintro e w11 ⟨rfl, hI, hF⟩
                    replace H2 := Lib.hid (hT4 _ _ hI hF)
                    replace HL := Lib.hid (HL.out.fr (fun k hk => tx_far (hT3 k hk)) hF)
                    have HLs := Lib.hid (dev_lasts (keep := keep) (soft0 := soft0) (tear := tear) HN.out.ok HW.out.down (by rw [HW.out.cv]; omega) (by rw [HW.out.cv, HW.out.sq]; omega) hw0 HW.out.cache HW.out.point)
                    have HN4 := Lib.hid (crash_ok keep soft0 tear HN.out (by omega))
                    have HD4 := Lib.hid (show (crashD D3 keep soft0 tear).down = false ∧ (crashD D3 keep soft0 tear).conv = conv ∧ (crashD D3 keep soft0 tear).seq = seq from ⟨rfl, HW.out.cv, HW.out.sq⟩)
                    clear T hT1 hT2 hT3 hT4 hI hF cw0 cw1 cw2
                    generalize crashD D3 keep soft0 tear = D4 at *
                    go_wp2_with fail
                    obtain ⟨now, hnow⟩ : ∃ now, (zat D4.L zn).2 = now := ⟨_, rfl⟩
                    obtain ⟨T, hT1, hT2, hT3, hT4⟩ := H2.out.step
                    refine (zones_dev hT1 HN4.out.ok hT2).mono ?_
                    rintro e w12 ⟨g2, c2, rfl, hown, hb⟩
                    have hDn4 : (D4.n : Int) = conv + seq := by have := HN4.out.ok.ns; rw [HD4.out.2.1, HD4.out.2.2] at this; exact this
                    have hzlt4 : (zn : Int) < D4.n := by omega
                    have cz2 : w12.cell? ⟨g2, zn * 2 + 1, none⟩ = some (.int .i64 now) := by
                      have hLl : D4.L.length = D4.n := by have := HN4.out.ok.fit.1; rw [HD4.out.2.1, HD4.out.2.2] at this; omega
                      have hzL : zn < D4.L.length := by omega
                      have hzat : D4.L[zn]? = some (zat D4.L zn) := by
                        unfold zat
                        rw [Int.toNat_natCast, List.getD_eq_getElem?_getD, List.getElem?_eq_getElem hzL]
                        rfl
                      rw [← hnow]
                      exact (Rd.own hown).cell0 (zc_get1 hzat)
                    replace H2 := Lib.hid (H2.out.on hb)
                    replace HL := Lib.hid (HL.out.on hb)
                    have HLs2 := HLs.out
                    rw [hnow, htl] at HLs2
                    have hn0 := HLs2.1
                    have hn9 := HLs2.2.1
                    have HLP := Lib.hid HLs2.2.2.2
                    have HC4 := Lib.hid HLs2.2.2.1
                    have HNw := Lib.hid hnow
                    clear HLs HLs2 hnow hown hb T hT1 hT2 hT3 hT4
                    have hq1 : ¬ now < was := by omega
                    have hq2 : ¬ was + (j : Int) < now := by omega
                    have hsm : IntKind.i64.wrap (was + (j : Int)) = was + (j : Int) := IntWalk.i64_in _ (by omega)
                    go_wp2_with fail
                    clear cz2 hDn4 hzlt4 hq1 hq2 hsm
                    go_loopw [18] (fun i wr => ∃ (k : Nat), (k : Int) ≤ now ∧ i = .int .i64 k ∧ TwoDev w wr [w.heap.size, w.heap.size + 1] d D4 d2 D3 ∧ LwIn w wr [.int .i64 conv, .int .i64 soft, .int .i64 seq, .int .i64 size, .int .i64 opn] [.slice keepA kn kc, .int .u64 soft0, .int .i64 tear]) (fun i _ => (now - intOf i).toNat)
                    case atStart => exact ⟨0, by omega, rfl, H2.out, HL.out⟩
                    case round =>
                      clear H2 HL
                      obtain ⟨k, hk, rfl, h2, hL⟩ := hrel
                      have H2 := Lib.hid h2
                      have HL := Lib.hid hL
                      clear h2 hL
                      by_cases hlt : (k : Int) < now
                      · have HR1 := Lib.hid (read_ok HN4.out.ok HD4.out.1 (z := (zn : Int)) (i := (k : Int)) (by rw [HD4.out.2.1]; omega) (by rw [HD4.out.2.1, HD4.out.2.2]; omega) (by omega) (by rw [HNw.out]; omega))
                        have HR2 := Lib.hid (read_ok HN.out.ok HW.out.down (z := (zn : Int)) (i := (k : Int)) (by rw [HW.out.cv]; omega) (by rw [HW.out.cv, HW.out.sq]; omega) (by omega) (by rw [HW.out.point, htl]; omega))
                        have HP1 := Lib.hid (page_length HN4.out.ok ((zn : Int), (k : Int)))
                        have HP2 := Lib.hid (page_length HN.out.ok ((zn : Int), (k : Int)))
                        have HE := Lib.hid (show pageD D4 ((zn : Int), (k : Int)) = pageD D3 ((zn : Int), (k : Int)) ∨ ((k : Int) = now - 1 ∧ ¬ (k : Int) < was ∧ ¬ tear ≤ 0) from by
                          by_cases h : (k : Int) ≠ now - 1 ∨ (k : Int) < was ∨ tear ≤ 0
                          · exact .inl (HLP.out k (by omega) hlt h)
                          · exact .inr (by omega))
                        go_wp2_with fail
                        obtain ⟨T, hT1, hT2, hT3, hT4⟩ := H2.out.step
                        have hc := read_any (T := T) ((zn : Int), (k : Int)) ⟨(w64 (by omega) (by omega) : W64 (zn : Int)), (w64 (by omega) (by omega) : W64 (k : Int))⟩ hT1 HN4.out.ok hT2
                        rw [HR1.out] at hc
                        refine hc.mono ?_
                        rintro e w13 ⟨rfl, hI, hF⟩
                        replace H2 := Lib.hid (hT4 _ _ hI hF)
                        replace HL := Lib.hid (HL.out.fr (fun k hk => tx_far (hT3 k hk)) hF)
                        clear T hT1 hT2 hT3 hT4 hI hF hc HR1
                        generalize pageD D4 ((zn : Int), (k : Int)) = p1 at HP1 HE ⊢
                        go_wp2_with (first
                          | ((with_reducible refine wpList_pg_alloc (o := ⟨some 19, .alloc _, _, _, _, _⟩) rfl rfl ?_); intro w14 x14 hB14 hs14)
                          | ((with_reducible refine wpList_pg_store (o := ⟨none, .store _ _ _, _, _, _, _⟩) rfl _ _ rfl w13.heap.size p1 pg0 HP1.out rfl rfl rfl x14 ?_); intro w15 x15 hg15 _)
                          | fail)
                        replace H2 := Lib.hid (H2.out.beside hB14 hs14 hg15)
                        replace HL := Lib.hid (HL.out.on (below_stored hB14 hg15 (by omega) (Nat.le_refl _)))
                        have HX0 := Lib.hid x15
                        clear x14 hB14 hs14 x15 hg15
                        generalize w13.heap.size = b1 at *
                        obtain ⟨T, hT1, hT2, hT3, hT4⟩ := H2.out.swap.step
                        have hc := read_any (T := T) ((zn : Int), (k : Int)) ⟨(w64 (by omega) (by omega) : W64 (zn : Int)), (w64 (by omega) (by omega) : W64 (k : Int))⟩ hT1 HN.out.ok hT2
                        rw [HR2.out] at hc
                        refine hc.mono ?_
                        rintro e w16 ⟨rfl, hI, hF⟩
                        replace H2 := Lib.hid (hT4 _ _ hI hF).swap
                        replace HL := Lib.hid (HL.out.fr (fun k hk => tx_far ⟨(hT3 k hk).1, fun hx => (hT3 k hk).2 (List.mem_cons_of_mem _ hx)⟩) hF)
                        have HX := Lib.hid (hF.boxT HX0.out hT3 (by simp))
                        clear T hT1 hT2 hT3 hT4 hI hF hc HR2 HX0
                        generalize pageD D3 ((zn : Int), (k : Int)) = p2 at HP2 HE ⊢
                        have hq := fun w' => pg_equal w' p1 p2 HP1.out HP2.out
                        have hgd := pg_guard
                        cases hpe : (p1 == p2) with
                        | true =>
                          rw [hpe] at hq
                          clear hpe HE
                          go_wp2_with (first
                            | ((with_reducible refine wpList_pg_alloc (o := ⟨some 21, .alloc _, _, _, _, _⟩) rfl rfl ?_); intro w17 x17 hB17 hs17)
                            | ((with_reducible refine wpList_pg_store (o := ⟨none, .store _ _ _, _, _, _, _⟩) rfl _ _ rfl w16.heap.size p2 pg0 HP2.out rfl rfl rfl x17 ?_); intro w18 x18 hg18 _; have HB := Lib.hid (below_stored hB17 hg18 (by omega) (Nat.le_refl _)); have HH := Lib.hid (And.intro (H2.out.beside hB17 hs17 hg18) (HL.out.on HB.out)); have l1 := big_load0 Try.prog b1 0 (bs p1) m8 (by rw [bs_length, HP1.out, HM8.out]) w18 (HX.out.on HB.out).range0; have l2 := big_load0 Try.prog w16.heap.size 0 (bs p2) m8 (by rw [bs_length, HP2.out, HM8.out]) w18 x18.range0; have ct := HH.out.2.2.1.cell 2; simp only [List.getElem?_cons_zero, List.getElem?_cons_succ] at ct; clear x17 hB17 hs17 x18 hg18)
                            | fail)
                          go_roundw
                          case rel => exact ⟨k + 1, by omega, by go_num, HH.out.1.less.less, HH.out.2⟩
                          case measure => simp [intOf]; omega
                        | false =>
                          rw [hpe] at hq
                          have hE := HE.out.resolve_left fun h => by rw [h, beq_self_eq_true] at hpe; cases hpe
                          have hk1 : ((k : Int) != now - 1) = false := by simp [hE.1]
                          have hk2 := hE.2.1
                          have hk3 := hE.2.2
                          have hwp : IntKind.i64.wrap (now - 1) = now - 1 := IntWalk.i64_in _ (by omega)
                          clear hpe HE hE
                          go_wp2_with (first
                            | ((with_reducible refine wpList_pg_alloc (o := ⟨some 21, .alloc _, _, _, _, _⟩) rfl rfl ?_); intro w17 x17 hB17 hs17)
                            | ((with_reducible refine wpList_pg_store (o := ⟨none, .store _ _ _, _, _, _, _⟩) rfl _ _ rfl w16.heap.size p2 pg0 HP2.out rfl rfl rfl x17 ?_); intro w18 x18 hg18 _; have HB := Lib.hid (below_stored hB17 hg18 (by omega) (Nat.le_refl _)); have HH := Lib.hid (And.intro (H2.out.beside hB17 hs17 hg18) (HL.out.on HB.out)); have l1 := big_load0 Try.prog b1 0 (bs p1) m8 (by rw [bs_length, HP1.out, HM8.out]) w18 (HX.out.on HB.out).range0; have l2 := big_load0 Try.prog w16.heap.size 0 (bs p2) m8 (by rw [bs_length, HP2.out, HM8.out]) w18 x18.range0; have ct := HH.out.2.2.1.cell 2; simp only [List.getElem?_cons_zero, List.getElem?_cons_succ] at ct; clear x17 hB17 hs17 x18 hg18)
                            | fail)
                          go_roundw
                          case rel => exact ⟨k + 1, by omega, by go_num, HH.out.1.less.less, HH.out.2⟩
                          case measure => simp [intOf]; omega
                      · obtain ⟨A5, n5, c5, cv5, rfl, hn5, zv5, lb5, nb5, hblk⟩ := H2.out.blk
                        rw [HC4.out, List.length_nil] at hn5
                        subst hn5
                        rw [HD4.out.1] at hblk
                        have HCa := Lib.hid (cached_any hblk)
                        have HDo := Lib.hid (down_any hblk)
                        clear hblk
                        go_wp2_with fail
                        refine HCa.out.mono ?_
                        rintro e w13 ⟨rfl, rfl⟩
                        go_wp2_with fail
                        refine HDo.out.mono ?_
                        rintro e w14 ⟨rfl, rfl⟩
                        go_wp2
                        go_ret
                        exact ⟨rfl, HL.out.2.2.1⟩
                · obtain rfl : nm = j := by omega
                  have HD := Lib.hid hD
                  have HL := Lib.hid hL
                  have HN := Lib.hid (hN.mono (show n + 1 + nm ≤ n + 1 + nm + 1 by omega))
                  have HW := Lib.hid hW
                  clear hN hW hD hL hlt
                  generalize ps.take nm = qs at HW htk
                  have htl := htk
                  clear htk
                  generalize D2 = D3 at HD HN HW
                  go_wp2_with fail
                  refine (dclone_any (TX w.heap.size [w.heap.size, w.heap.size + 1]) d D3 _ HD.out.1 HN.out.ok).mono ?_
                  rintro e w10 ⟨d2, rfl, hI, hb⟩
                  have H2 := Lib.hid (HD.out.two hI hb)
                  replace HL := Lib.hid (HL.out.on hb)
                  clear hI hb HD cz
                  have cw0 := HL.out.2.1.cell 0
                  have cw1 := HL.out.2.1.cell 1
                  have cw2 := HL.out.2.1.cell 2
                  simp only [List.getElem?_cons_zero, List.getElem?_cons_succ] at cw0 cw1 cw2
                  go_wp2_with fail
                  obtain ⟨T, hT1, hT2, hT3, hT4⟩ := H2.out.step
                  refine (crash_any T D3 keepA kn kc keep soft0 tear hT1 HN.out.ok hT2 ((HKp.out.1.below HL.out.2.2.1).more HL.out.2.2.1.size) HKp.out.2.1 HKp.out.2.2.1 HKp.out.2.2.2.1 HKp.out.2.2.2.2 (keep_far HKp.out.1 fun k hk => (hT3 k hk).1)).mono ?_
                  rintro e w11 ⟨rfl, hI, hF⟩
                  replace H2 := Lib.hid (hT4 _ _ hI hF)
                  replace HL := Lib.hid (HL.out.fr (fun k hk => tx_far (hT3 k hk)) hF)
                  have HLs := Lib.hid (dev_lasts (keep := keep) (soft0 := soft0) (tear := tear) HN.out.ok HW.out.down (by rw [HW.out.cv]; omega) (by rw [HW.out.cv, HW.out.sq]; omega) hw0 HW.out.cache HW.out.point)
                  have HN4 := Lib.hid (crash_ok keep soft0 tear HN.out (by omega))
                  have HD4 := Lib.hid (show (crashD D3 keep soft0 tear).down = false ∧ (crashD D3 keep soft0 tear).conv = conv ∧ (crashD D3 keep soft0 tear).seq = seq from ⟨rfl, HW.out.cv, HW.out.sq⟩)
                  clear T hT1 hT2 hT3 hT4 hI hF cw0 cw1 cw2
                  generalize crashD D3 keep soft0 tear = D4 at *
                  go_wp2_with fail
                  obtain ⟨now, hnow⟩ : ∃ now, (zat D4.L zn).2 = now := ⟨_, rfl⟩
                  obtain ⟨T, hT1, hT2, hT3, hT4⟩ := H2.out.step
                  refine (zones_dev hT1 HN4.out.ok hT2).mono ?_
                  rintro e w12 ⟨g2, c2, rfl, hown, hb⟩
                  have hDn4 : (D4.n : Int) = conv + seq := by have := HN4.out.ok.ns; rw [HD4.out.2.1, HD4.out.2.2] at this; exact this
                  have hzlt4 : (zn : Int) < D4.n := by omega
                  have cz2 : w12.cell? ⟨g2, zn * 2 + 1, none⟩ = some (.int .i64 now) := by
                    have hLl : D4.L.length = D4.n := by have := HN4.out.ok.fit.1; rw [HD4.out.2.1, HD4.out.2.2] at this; omega
                    have hzL : zn < D4.L.length := by omega
                    have hzat : D4.L[zn]? = some (zat D4.L zn) := by
                      unfold zat
                      rw [Int.toNat_natCast, List.getD_eq_getElem?_getD, List.getElem?_eq_getElem hzL]
                      rfl
                    rw [← hnow]
                    exact (Rd.own hown).cell0 (zc_get1 hzat)
                  replace H2 := Lib.hid (H2.out.on hb)
                  replace HL := Lib.hid (HL.out.on hb)
                  have HLs2 := HLs.out
                  rw [hnow, htl] at HLs2
                  have hn0 := HLs2.1
                  have hn9 := HLs2.2.1
                  have HLP := Lib.hid HLs2.2.2.2
                  have HC4 := Lib.hid HLs2.2.2.1
                  have HNw := Lib.hid hnow
                  clear HLs HLs2 hnow hown hb T hT1 hT2 hT3 hT4
                  have hq1 : ¬ now < was := by omega
                  have hq2 : ¬ was + (nm : Int) < now := by omega
                  have hsm : IntKind.i64.wrap (was + (nm : Int)) = was + (nm : Int) := IntWalk.i64_in _ (by omega)
                  go_wp2_with fail
                  clear cz2 hDn4 hzlt4 hq1 hq2 hsm
                  go_loopw [18] (fun i wr => ∃ (k : Nat), (k : Int) ≤ now ∧ i = .int .i64 k ∧ TwoDev w wr [w.heap.size, w.heap.size + 1] d D4 d2 D3 ∧ LwIn w wr [.int .i64 conv, .int .i64 soft, .int .i64 seq, .int .i64 size, .int .i64 opn] [.slice keepA kn kc, .int .u64 soft0, .int .i64 tear]) (fun i _ => (now - intOf i).toNat)
                  case atStart => exact ⟨0, by omega, rfl, H2.out, HL.out⟩
                  case round =>
                    clear H2 HL
                    obtain ⟨k, hk, rfl, h2, hL⟩ := hrel
                    have H2 := Lib.hid h2
                    have HL := Lib.hid hL
                    clear h2 hL
                    by_cases hlt : (k : Int) < now
                    · have HR1 := Lib.hid (read_ok HN4.out.ok HD4.out.1 (z := (zn : Int)) (i := (k : Int)) (by rw [HD4.out.2.1]; omega) (by rw [HD4.out.2.1, HD4.out.2.2]; omega) (by omega) (by rw [HNw.out]; omega))
                      have HR2 := Lib.hid (read_ok HN.out.ok HW.out.down (z := (zn : Int)) (i := (k : Int)) (by rw [HW.out.cv]; omega) (by rw [HW.out.cv, HW.out.sq]; omega) (by omega) (by rw [HW.out.point, htl]; omega))
                      have HP1 := Lib.hid (page_length HN4.out.ok ((zn : Int), (k : Int)))
                      have HP2 := Lib.hid (page_length HN.out.ok ((zn : Int), (k : Int)))
                      have HE := Lib.hid (show pageD D4 ((zn : Int), (k : Int)) = pageD D3 ((zn : Int), (k : Int)) ∨ ((k : Int) = now - 1 ∧ ¬ (k : Int) < was ∧ ¬ tear ≤ 0) from by
                        by_cases h : (k : Int) ≠ now - 1 ∨ (k : Int) < was ∨ tear ≤ 0
                        · exact .inl (HLP.out k (by omega) hlt h)
                        · exact .inr (by omega))
                      go_wp2_with fail
                      obtain ⟨T, hT1, hT2, hT3, hT4⟩ := H2.out.step
                      have hc := read_any (T := T) ((zn : Int), (k : Int)) ⟨(w64 (by omega) (by omega) : W64 (zn : Int)), (w64 (by omega) (by omega) : W64 (k : Int))⟩ hT1 HN4.out.ok hT2
                      rw [HR1.out] at hc
                      refine hc.mono ?_
                      rintro e w13 ⟨rfl, hI, hF⟩
                      replace H2 := Lib.hid (hT4 _ _ hI hF)
                      replace HL := Lib.hid (HL.out.fr (fun k hk => tx_far (hT3 k hk)) hF)
                      clear T hT1 hT2 hT3 hT4 hI hF hc HR1
                      generalize pageD D4 ((zn : Int), (k : Int)) = p1 at HP1 HE ⊢
                      go_wp2_with (first
                        | ((with_reducible refine wpList_pg_alloc (o := ⟨some 19, .alloc _, _, _, _, _⟩) rfl rfl ?_); intro w14 x14 hB14 hs14)
                        | ((with_reducible refine wpList_pg_store (o := ⟨none, .store _ _ _, _, _, _, _⟩) rfl _ _ rfl w13.heap.size p1 pg0 HP1.out rfl rfl rfl x14 ?_); intro w15 x15 hg15 _)
                        | fail)
                      replace H2 := Lib.hid (H2.out.beside hB14 hs14 hg15)
                      replace HL := Lib.hid (HL.out.on (below_stored hB14 hg15 (by omega) (Nat.le_refl _)))
                      have HX0 := Lib.hid x15
                      clear x14 hB14 hs14 x15 hg15
                      generalize w13.heap.size = b1 at *
                      obtain ⟨T, hT1, hT2, hT3, hT4⟩ := H2.out.swap.step
                      have hc := read_any (T := T) ((zn : Int), (k : Int)) ⟨(w64 (by omega) (by omega) : W64 (zn : Int)), (w64 (by omega) (by omega) : W64 (k : Int))⟩ hT1 HN.out.ok hT2
                      rw [HR2.out] at hc
                      refine hc.mono ?_
                      rintro e w16 ⟨rfl, hI, hF⟩
                      replace H2 := Lib.hid (hT4 _ _ hI hF).swap
                      replace HL := Lib.hid (HL.out.fr (fun k hk => tx_far ⟨(hT3 k hk).1, fun hx => (hT3 k hk).2 (List.mem_cons_of_mem _ hx)⟩) hF)
                      have HX := Lib.hid (hF.boxT HX0.out hT3 (by simp))
                      clear T hT1 hT2 hT3 hT4 hI hF hc HR2 HX0
                      generalize pageD D3 ((zn : Int), (k : Int)) = p2 at HP2 HE ⊢
                      have hq := fun w' => pg_equal w' p1 p2 HP1.out HP2.out
                      have hgd := pg_guard
                      cases hpe : (p1 == p2) with
                      | true =>
                        rw [hpe] at hq
                        clear hpe HE
                        go_wp2_with (first
                          | ((with_reducible refine wpList_pg_alloc (o := ⟨some 21, .alloc _, _, _, _, _⟩) rfl rfl ?_); intro w17 x17 hB17 hs17)
                          | ((with_reducible refine wpList_pg_store (o := ⟨none, .store _ _ _, _, _, _, _⟩) rfl _ _ rfl w16.heap.size p2 pg0 HP2.out rfl rfl rfl x17 ?_); intro w18 x18 hg18 _; have HB := Lib.hid (below_stored hB17 hg18 (by omega) (Nat.le_refl _)); have HH := Lib.hid (And.intro (H2.out.beside hB17 hs17 hg18) (HL.out.on HB.out)); have l1 := big_load0 Try.prog b1 0 (bs p1) m8 (by rw [bs_length, HP1.out, HM8.out]) w18 (HX.out.on HB.out).range0; have l2 := big_load0 Try.prog w16.heap.size 0 (bs p2) m8 (by rw [bs_length, HP2.out, HM8.out]) w18 x18.range0; have ct := HH.out.2.2.1.cell 2; simp only [List.getElem?_cons_zero, List.getElem?_cons_succ] at ct; clear x17 hB17 hs17 x18 hg18)
                          | fail)
                        go_roundw
                        case rel => exact ⟨k + 1, by omega, by go_num, HH.out.1.less.less, HH.out.2⟩
                        case measure => simp [intOf]; omega
                      | false =>
                        rw [hpe] at hq
                        have hE := HE.out.resolve_left fun h => by rw [h, beq_self_eq_true] at hpe; cases hpe
                        have hk1 : ((k : Int) != now - 1) = false := by simp [hE.1]
                        have hk2 := hE.2.1
                        have hk3 := hE.2.2
                        have hwp : IntKind.i64.wrap (now - 1) = now - 1 := IntWalk.i64_in _ (by omega)
                        clear hpe HE hE
                        go_wp2_with (first
                          | ((with_reducible refine wpList_pg_alloc (o := ⟨some 21, .alloc _, _, _, _, _⟩) rfl rfl ?_); intro w17 x17 hB17 hs17)
                          | ((with_reducible refine wpList_pg_store (o := ⟨none, .store _ _ _, _, _, _, _⟩) rfl _ _ rfl w16.heap.size p2 pg0 HP2.out rfl rfl rfl x17 ?_); intro w18 x18 hg18 _; have HB := Lib.hid (below_stored hB17 hg18 (by omega) (Nat.le_refl _)); have HH := Lib.hid (And.intro (H2.out.beside hB17 hs17 hg18) (HL.out.on HB.out)); have l1 := big_load0 Try.prog b1 0 (bs p1) m8 (by rw [bs_length, HP1.out, HM8.out]) w18 (HX.out.on HB.out).range0; have l2 := big_load0 Try.prog w16.heap.size 0 (bs p2) m8 (by rw [bs_length, HP2.out, HM8.out]) w18 x18.range0; have ct := HH.out.2.2.1.cell 2; simp only [List.getElem?_cons_zero, List.getElem?_cons_succ] at ct; clear x17 hB17 hs17 x18 hg18)
                          | fail)
                        go_roundw
                        case rel => exact ⟨k + 1, by omega, by go_num, HH.out.1.less.less, HH.out.2⟩
                        case measure => simp [intOf]; omega
                    · obtain ⟨A5, n5, c5, cv5, rfl, hn5, zv5, lb5, nb5, hblk⟩ := H2.out.blk
                      rw [HC4.out, List.length_nil] at hn5
                      subst hn5
                      rw [HD4.out.1] at hblk
                      have HCa := Lib.hid (cached_any hblk)
                      have HDo := Lib.hid (down_any hblk)
                      clear hblk
                      go_wp2_with fail
                      refine HCa.out.mono ?_
                      rintro e w13 ⟨rfl, rfl⟩
                      go_wp2_with fail
                      refine HDo.out.mono ?_
                      rintro e w14 ⟨rfl, rfl⟩
                      go_wp2
                      go_ret
                      exact ⟨rfl, HL.out.2.2.1⟩
end Go.Proofs.Ytdacdnpghngiiaa

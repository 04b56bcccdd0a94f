/-
  Layer 10: the law LiveCounts.
-/
import Derived.Test.YtajehmdmgkhkpaaLvQ
namespace Go.Proofs.Ytajehmdmgkhkpaa
open Go.RowKit Geom Lv
set_option linter.unusedVariables false

theorem num_eq {a b : Int} (h : a = b) : Value.int .i64 a = .int .i64 b := by rw [h]
set_option maxRecDepth 100000 in
set_option maxHeartbeats 8000000 in
theorem lvlaw_counts (conv soft seq size opn : Int) (A : Option Addr) (len cap : Nat) (ts : List Ac) (w : World) (hts : ts.length = len) (h64 : ∀ t ∈ ts, W64 t.p) (hr : Rd w w.heap.size A (acl ts)) :
    Calls Try.prog 5 #[.agg #[.int .i64 conv, .int .i64 soft, .int .i64 seq, .int .i64 size, .int .i64 opn], .slice A len cap] w fun e w' => e = .returned (.bool true) ∧ Below w.heap.size w w' := by
  clear h64
  have hbox := Lies.new w conv soft seq size opn 23 (0, 0)
  have hb0 : Below w.heap.size w (w.alloc (.cells #[.int .i64 conv, .int .i64 soft, .int .i64 seq, .int .i64 size, .int .i64 opn] 23)) := below_alloc1 (Below.refl _ _)
  have hsz0 : (w.alloc (.cells #[.int .i64 conv, .int .i64 soft, .int .i64 seq, .int .i64 size, .int .i64 opn] 23)).heap.size = w.heap.size + 1 := by simp
  have hr0 := (hr.below hb0).more hb0.size
  have HTs := Lib.hid hts
  clear hr hts
  go_enter Try.func5, Try.ntmps5
  go_wp2_with fail
  generalize World.alloc _ _ = w0 at hbox hb0 hsz0 hr0 ⊢
  have SO := Lib.hid fun w' (h : Below w0.heap.size w0 w') => (⟨(hbox.below h).1, (hbox.below h).2.1, (hbox.below h).2.2.1, (hbox.below h).2.2.2.1, (hbox.below h).2.2.2.2.1⟩ :
    w'.cell? ⟨w.heap.size, 0, none⟩ = some (.int .i64 conv) ∧ w'.cell? ⟨w.heap.size, 1, none⟩ = some (.int .i64 soft) ∧ w'.cell? ⟨w.heap.size, 2, none⟩ = some (.int .i64 seq) ∧ w'.cell? ⟨w.heap.size, 3, none⟩ = some (.int .i64 size) ∧ w'.cell? ⟨w.heap.size, 4, none⟩ = some (.int .i64 opn))
  have H0 := Lib.hid (And.intro hb0 (And.intro hsz0 hr0))
  clear hbox hb0 hsz0 hr0
  refine (awake10_any w0).mono ?_
  rintro e w1 ⟨rfl, hb1⟩
  have B1 := Lib.hid hb1
  obtain ⟨c0, c1, c2, c3, c4⟩ := SO.out _ hb1
  clear hb1
  have HLi := Lib.hid (little_any conv soft seq size opn w1)
  cases hlit : litB conv soft seq size opn
  · rw [hlit] at HLi
    go_wp2_with fail
    refine HLi.out.mono ?_
    rintro e w2 ⟨rfl, hb2⟩
    have B2 := Lib.hid (bthen B1.out hb2)
    clear c0 c1 c2 c3 c4 hb2
    go_wp2_with fail
    refine (awake10_any w2).mono ?_
    rintro e w3 ⟨rfl, hb9⟩
    have B9 := Lib.hid (bthen B2.out hb9)
    clear hb9
    go_wp2
    go_ret
    exact ⟨rfl, H0.out.1.trans (B9.out.mono H0.out.1.size)⟩
  rw [hlit] at HLi
  have HY := Lib.hid (lit_yes hlit)
  clear hlit
  go_wp2_with fail
  refine HLi.out.mono ?_
  rintro e w2 ⟨rfl, hb2⟩
  have B2 := Lib.hid (bthen B1.out hb2)
  clear c0 c1 c2 c3 c4 hb2 B1 HLi
  by_cases h60 : 60 < len
  · go_wp2_with fail
    refine (awake10_any w2).mono ?_
    rintro e w3 ⟨rfl, hb9⟩
    have B9 := Lib.hid (bthen B2.out hb9)
    clear hb9
    go_wp2
    go_ret
    exact ⟨rfl, H0.out.1.trans (B9.out.mono H0.out.1.size)⟩
  have hlen : len ≤ 60 := by omega
  have hleI : (len : Int) ≤ 60 := by omega
  have HLen := Lib.hid hlen
  clear h60
  obtain ⟨c0, c1, c2, c3, c4⟩ := SO.out _ B2.out
  have HN := Lib.hid (lvnew_any conv soft seq size opn w2 HY.out.1)
  go_wp2_with fail
  refine HN.out.mono ?_
  rintro e w3 ⟨d, b, c, rfl, t3, hd3, hb3, hc3, hbl3⟩
  have L3 : Hid (LSv w0 w3 d b c 0 conv soft seq size opn []) := Lib.hid ⟨B2.out.trans (hbl3.mono B2.out.size), t3, by have := B2.out.size; omega, by have := B2.out.size; omega⟩
  clear t3 hd3 hb3 hc3 hbl3 HN c0 c1 c2 c3 c4
  go_wp2
  go_loopw [6, 7] (fun nv i wr => ∃ k : Nat, k ≤ len ∧ i = .int .i64 k ∧ nv = .int .i64 ((runA seq size (ts.take k)).length : Int) ∧ LSv w0 wr d b c k conv soft seq size opn (runA seq size (ts.take k))) (fun _ i _ => len - (intOf i).toNat)
  case atStart => exact ⟨0, Nat.zero_le _, rfl, rfl, L3.out⟩
  case round =>
    clear L3
    obtain ⟨k, hk, rfl, rfl, hls⟩ := hrel
    have HL := Lib.hid hls
    clear hls
    by_cases hlt : k < len
    · have hkl : k < ts.length := by rw [HTs.out]; exact hlt
      obtain ⟨x, hx⟩ : ∃ x, ts[k]? = some x := ⟨ts[k], by simp [hkl]⟩
      obtain ⟨ad, rfl, hadb, hcs⟩ := act_at H0.out.2.2 hx
      have HSn := Lib.hid (runA_snoc (seq := seq) (size := size) hx)
      have HC := Lib.hid fun W (hW : Below w0.heap.size w0 W) => hcs W (fun p hp => hW.cell hp)
      obtain ⟨c0, c1, c2⟩ := HC.out _ HL.out.1
      have hki : (k : Int) < (len : Int) := by omega
      have hln : (runA seq size (ts.take k)).length ≤ 60 := by have := HL.out.2.1.hl; omega
      clear hcs hkl hx hadb
      obtain ⟨dr, xp, xb⟩ := x
      simp only at HSn HC c0 c1 c2
      cases dr
      · have hg := fun w' (h : LSv w0 w' d b c k conv soft seq size opn (runA seq size (ts.take k))) => lvadd_any w' xp xb h.2.1 (by have := HLen.out; omega)
        cases hgg : (doM seq size (runA seq size (ts.take k)) xp xb false).2
        · have HLn := Lib.hid (doM_len_no (seq := seq) (size := size) (l := runA seq size (ts.take k)) (t := ⟨false, xp, xb⟩) hgg)
          rw [hgg] at hg
          have HG := Lib.hid hg
          clear hg hgg
          generalize hgl : (runA seq size (ts.take k)).length = ln at *
          have HLk := Lib.hid hgl
          clear hgl
          go_wp2_with fail
          go_region_held3 (fun w' => w'.cell? (ad.add (k * 3)) = some (.bool false) ∧ w'.cell? ⟨(ad.add (k * 3)).block, (ad.add (k * 3)).off + 1, none⟩ = some (.int .i64 xp) ∧ w'.cell? ⟨(ad.add (k * 3)).block, (ad.add (k * 3)).off + 2, none⟩ = some (.int .i64 xb))
            ((refine HC.out _ ?_; first | exact L6.out.1 | exact HL.out.1 | exact HL.out.1.drew | exact L6.out.1.drew))
            (((with_reducible refine (HG.out _ HL.out.drew).mono ?_); rintro e w6 ⟨rfl, t6, f6⟩; have L6 := Lib.hid (HL.out.drew.put t6 f6)))
          all_goals
            clear t6 f6 c0 c1 c2 HG
            go_wp2
            go_roundw
            case rel => exact ⟨k + 1, by omega, by go_num, by rw [HSn.out, HLn.out, HLk.out], by rw [HSn.out]; exact L6.out⟩
            case measure => first | (simp [intOf]; done) | (simp [intOf]; omega)
        · have HLn := Lib.hid (doM_len_yes (seq := seq) (size := size) (l := runA seq size (ts.take k)) (t := ⟨false, xp, xb⟩) hgg)
          rw [hgg] at hg
          have HG := Lib.hid hg
          clear hg hgg
          generalize hgl : (runA seq size (ts.take k)).length = ln at *
          have HLk := Lib.hid hgl
          clear hgl
          go_wp2_with fail
          go_region_held3 (fun w' => w'.cell? (ad.add (k * 3)) = some (.bool false) ∧ w'.cell? ⟨(ad.add (k * 3)).block, (ad.add (k * 3)).off + 1, none⟩ = some (.int .i64 xp) ∧ w'.cell? ⟨(ad.add (k * 3)).block, (ad.add (k * 3)).off + 2, none⟩ = some (.int .i64 xb))
            ((refine HC.out _ ?_; first | exact L6.out.1 | exact HL.out.1 | exact HL.out.1.drew | exact L6.out.1.drew))
            (((with_reducible refine (HG.out _ HL.out.drew).mono ?_); rintro e w6 ⟨rfl, t6, f6⟩; have L6 := Lib.hid (HL.out.drew.put t6 f6)))
          all_goals
            clear t6 f6 c0 c1 c2 HG
            go_wp2
            go_roundw
            case rel => exact ⟨k + 1, by omega, by go_num, by rw [HSn.out]; exact num_eq (by have := HLn.out; simp at this; omega), by rw [HSn.out]; exact L6.out⟩
            case measure => first | (simp [intOf]; done) | (simp [intOf]; omega)
      · have hg := lvdrop_any wr xp xb HL.out.2.1 (by have := HLen.out; omega)
        cases hgg : (doM seq size (runA seq size (ts.take k)) xp xb true).2
        · have HLn := Lib.hid (doM_len_no (seq := seq) (size := size) (l := runA seq size (ts.take k)) (t := ⟨true, xp, xb⟩) hgg)
          rw [hgg] at hg
          have HG := Lib.hid hg
          clear hg hgg
          generalize hgl : (runA seq size (ts.take k)).length = ln at *
          have HLk := Lib.hid hgl
          clear hgl
          go_wp2_with fail
          refine HG.out.mono ?_
          rintro e w6 ⟨rfl, t6, f6⟩
          have L6 := Lib.hid (HL.out.put t6 f6)
          obtain ⟨e0, e1, e2⟩ := HC.out _ L6.out.1
          clear t6 f6 c0 c1 c2 HG
          go_wp2
          go_quiet (fail)
          have L7 := Lib.hid (L6.out.drewN nq)
          generalize w6.drewN nq = w7 at *
          go_wp2
          go_roundw
          case rel => exact ⟨k + 1, by omega, by go_num, by rw [HSn.out, HLn.out, HLk.out], by rw [HSn.out]; exact L7.out⟩
          case measure => first | (simp [intOf]; done) | (simp [intOf]; omega)
        · have HLn := Lib.hid (doM_len_yes (seq := seq) (size := size) (l := runA seq size (ts.take k)) (t := ⟨true, xp, xb⟩) hgg)
          rw [hgg] at hg
          have HG := Lib.hid hg
          clear hg hgg
          generalize hgl : (runA seq size (ts.take k)).length = ln at *
          have HLk := Lib.hid hgl
          clear hgl
          go_wp2_with fail
          refine HG.out.mono ?_
          rintro e w6 ⟨rfl, t6, f6⟩
          have L6 := Lib.hid (HL.out.put t6 f6)
          clear t6 f6 c0 c1 c2 HG
          go_wp2
          go_roundw
          case rel => exact ⟨k + 1, by omega, by go_num, by rw [HSn.out]; exact num_eq (by have := HLn.out; simp only [if_true] at this; omega), by rw [HSn.out]; exact L6.out⟩
          case measure => first | (simp [intOf]; done) | (simp [intOf]; omega)
    · obtain rfl : len = k := by omega
      generalize hlF : runA seq size (ts.take len) = l at *
      clear hlF
      have hq := HY.out.2.1
      obtain ⟨q1, q2, q3, q4, q5⟩ := hq
      have hcs := IntWalk.i64_in (conv + seq) (by omega)
      obtain ⟨N, hN⟩ : ∃ N : Nat, conv + seq = (N : Int) := ⟨(conv + seq).toNat, by omega⟩
      have hN14 : N ≤ 14 := by have := HY.out.2.2.2.1; omega
      have HN := Lib.hid hN
      have HQ := Lib.hid (And.intro q1 (And.intro q2 (And.intro q4 q5)))
      have hll : l.length ≤ 60 := by have := HL.out.2.1.hl; omega
      have HZC := Lib.hid fun z => zos_cn (soft := soft) HL.out.2.1.ok HL.out.2.1.wl z
      have HSM := Lib.hid (smC_all (by omega) (by omega) HL.out.2.1.wl hN)
      have HSL := Lib.hid fun k => smC_le (conv := conv) (seq := seq) (size := size) (l := l) k
      have HSS := Lib.hid fun k => smC_succ (conv := conv) (seq := seq) (size := size) (l := l) (k := k)
      clear hN q4 q5
      go_wp2
      clear hlt hk
      generalize wr = w4 at HL ⊢
      go_loopw [8, 9, 10] (fun sv i lv wr => ∃ k : Nat, k ≤ N ∧ i = .int .i64 k ∧ sv = .int .i64 (smC conv seq size l k : Int) ∧ LSv w0 wr d b c len conv soft seq size opn l) (fun _ i _ _ => N - (intOf i).toNat)
      case atStart => exact ⟨0, Nat.zero_le _, rfl, rfl, HL.out⟩
      case round =>
        clear HL
        obtain ⟨k, hk, rfl, rfl, hls⟩ := hrel
        have HL := Lib.hid hls
        clear hls
        obtain ⟨c0, c1, c2, c3, c4⟩ := SO.out _ HL.out.1
        by_cases hlt : k < N
        · have hki : (k : Int) < (N : Int) := by omega
          have hkc : (k : Int) < conv + seq := by rw [HN.out]; exact hki
          have hz64 : W64 (k : Int) := w64_of (by omega) (by omega)
          have HCn := Lib.hid fun w' (h : LSv w0 w' d b c len conv soft seq size opn l) => lvcount_any w' (k : Int) hz64 h.2.1
          have HZ := Lib.hid fun w' (h : LSv w0 w' d b c len conv soft seq size opn l) => lvzone_any w' (k : Int) hz64 HY.out.2.2.1 h.2.1
          have hsm : smC conv seq size l k ≤ 840 := by
            have h1 := HSL.out k
            have h2 : k * l.length ≤ 14 * 60 := Nat.mul_le_mul (by omega) hll
            omega
          have hsn := HSS.out k
          have hzc := HZC.out (k : Int)
          have hcl : cn conv seq size l (k : Int) ≤ 60 := Nat.le_trans (cn_le _) hll
          have hlow : (k : Int) < conv → (zos conv soft seq size l (k : Int)).length = 0 := fun h => by
            unfold zos
            rw [zo_low (by omega)]
            rfl
          have HLive := Lib.hid fun o (h : o ∈ zos conv soft seq size l (k : Int)) => zo_live h
          have HSrt : Hid ((zos conv soft seq size l (k : Int)).Pairwise (· < ·)) := Lib.hid (zo_sorted (conv := conv) (seq := seq) (size := size) (l := l) (k : Int) (sectors conv soft seq size (k : Int)).toNat)
          have HOB := Lib.hid fun o (h : o ∈ zos conv soft seq size l (k : Int)) => (show o < 65536 from by
            have h1 : o ∈ List.range (sectors conv soft seq size (k : Int)).toNat := (List.mem_filter.1 h).1
            have h2 := List.mem_range.1 h1
            have h3 := sectors_bd (z := (k : Int)) HY.out.2.1 HY.out.2.2.1
            omega)
          rw [← hzc] at hcl hsn
          rw [← hzc] at HCn
          have HSN := Lib.hid hsn
          have HLow := Lib.hid hlow
          clear hzc hlow hsn hz64
          generalize zos conv soft seq size l (k : Int) = os at *
          generalize hnn : os.length = n at *
          have HNn := Lib.hid hnn
          generalize hsv : smC conv seq size l k = sk at *
          clear hnn hsv
          go_wp2_with fail
          refine (HCn.out _ HL.out).mono ?_
          rintro e w5 ⟨rfl, rfl⟩
          go_wp2_with fail
          refine (HZ.out _ HL.out).mono ?_
          rintro e w6 ⟨V6, rfl, hown6, hb6⟩
          obtain ⟨A6, k6, rfl⟩ := own_slice hown6
          have L6 := Lib.hid (HL.out.on hb6)
          have O6 := Lib.hid (show Rd w6 w6.heap.size A6 (ccs (os.map fun (o : Nat) => ((k : Int), (o : Int)))) by rw [← acs_ccs]; exact Rd.own hown6)
          obtain ⟨c0, c1, c2, c3, c4⟩ := SO.out _ L6.out.1
          have hne : ((n : Int) != (n : Int)) = false := by simp
          clear hown6 hb6
          go_wp2_with fail
          refine (HCn.out _ L6.out).mono ?_
          rintro e w7 ⟨rfl, rfl⟩
          by_cases hkv : (k : Int) < conv
          · have hn0 : decide ((0 : Int) < (n : Int)) = false := decide_eq_false (by have := HLow.out hkv; omega)
            have hn1 : decide (0 < n) = false := decide_eq_false (by have := HLow.out hkv; omega)
            go_wp2
            clear hn0 hn1
            go_loopw [11, 12] (fun i bv wr2 => ∃ j : Nat, j ≤ n ∧ i = .int .i64 j ∧ Below w6.heap.size w6 wr2) (fun i _ _ => n - (intOf i).toNat)
            case atStart => exact ⟨0, Nat.zero_le _, rfl, Below.refl _ _⟩
            case round =>
              obtain ⟨j, hj, rfl, hbl⟩ := hrel
              have HB := Lib.hid hbl
              clear hbl
              by_cases hjlt : j < n
              · have hji : (j : Int) < (n : Int) := by omega
                obtain ⟨o, ho⟩ : ∃ o, os[j]? = some o := ⟨os[j]'(by rw [HNn.out]; exact hjlt), by simp [HNn.out, hjlt]⟩
                obtain ⟨ad, rfl, _, _⟩ := pair_at O6.out (k := j) (x := ((k : Int), (o : Int))) (by rw [List.getElem?_map, ho]; rfl)
                have HX := Lib.hid fun w' (h : Below w6.heap.size w6 w') (i p : Nat) (hp : os[i]? = some p) => (by
                  obtain ⟨ad2, e2, _, h0, h1⟩ := pair_at (O6.out.below h) (k := i) (x := ((k : Int), (p : Int))) (by rw [List.getElem?_map, hp]; rfl)
                  obtain rfl : ad = ad2 := by injection e2
                  exact ⟨h0, h1⟩ : w'.cell? (ad.add (i * 2)) = some (.int .i64 (k : Int)) ∧ w'.cell? ⟨(ad.add (i * 2)).block, (ad.add (i * 2)).off + 1, none⟩ = some (.int .i64 (p : Int)))
                have hlv := HLive.out o (List.mem_of_getElem? ho)
                have hob : o < 65536 := by
                  have := HOB.out o (List.mem_of_getElem? ho)
                  exact this
                have hBk := fun w' (h : LSv w0 w' d b c len conv soft seq size opn l) => lvblock_any w' ((k : Int), (o : Int)) (w64_of (by omega) (by omega)) (w64_of (by omega) (by omega)) h.2.1
                rw [hlv] at hBk
                have HBk := Lib.hid hBk
                obtain ⟨x0, x1⟩ := HX.out _ HB.out j o ho
                clear hlv hBk
                generalize pv conv seq size l ((k : Int), (o : Int)) = pvo at *
                go_wp2_with fail
                refine (HBk.out _ (L6.out.on HB.out)).mono ?_
                rintro e w8 ⟨rfl, hb8⟩
                have B8 := Lib.hid (HB.out.trans (hb8.mono HB.out.size))
                obtain ⟨y0, y1⟩ := HX.out _ B8.out j o ho
                have hzz : ((k : Int) != (k : Int)) = false := by simp
                clear hb8 x0 x1
                rcases Nat.eq_zero_or_pos j with hj0 | hj0
                · have hj0b : decide (0 < j) = false := decide_eq_false (by omega)
                  clear hj0
                  go_wp2
                  go_quiet (fail)
                  have B9 := Lib.hid (below_draws B8.out nq)
                  generalize w8.drewN nq = w9 at *
                  go_wp2
                  go_roundw
                  case rel => exact ⟨j + 1, by omega, by go_num, B9.out⟩
                  case measure => first | (simp [intOf]; done) | (simp [intOf]; omega)
                · obtain ⟨i, hij⟩ : ∃ i, j = i + 1 := ⟨j - 1, by omega⟩
                  have HIJ := Lib.hid hij
                  obtain ⟨p, hp⟩ : ∃ p, os[i]? = some p := ⟨os[i]'(by rw [HNn.out]; omega), List.getElem?_eq_getElem (by rw [HNn.out]; omega)⟩
                  obtain ⟨z0, z1⟩ := HX.out _ B8.out i p hp
                  have hpo : p < o := by
                    have := List.pairwise_iff_getElem.1 HSrt.out i j (by rw [HNn.out]; omega) (by rw [HNn.out]; omega) (by omega)
                    obtain ⟨_, rfl⟩ := List.getElem?_eq_some_iff.1 hp
                    obtain ⟨_, rfl⟩ := List.getElem?_eq_some_iff.1 ho
                    exact this
                  have hge : decide (o ≤ p) = false := decide_eq_false (by omega)
                  have hi1 : (j : Int) - 1 = (i : Int) := by omega
                  have hi0 : decide (0 < j) = true := decide_eq_true (by omega)
                  have hi2 : (i : Int) < (n : Int) := by omega
                  clear hpo hij hj0
                  go_wp2
                  go_quiet (fail)
                  have B9 := Lib.hid (below_draws B8.out nq)
                  generalize w8.drewN nq = w9 at *
                  go_wp2
                  go_roundw
                  case rel => exact ⟨j + 1, by omega, by go_num, B9.out⟩
                  case measure => first | (simp [intOf]; done) | (simp [intOf]; omega)
              · obtain rfl : n = j := by omega
                have L9 := Lib.hid (L6.out.on HB.out)
                go_wp2
                go_roundw
                case rel => exact ⟨k + 1, by omega, by go_num, by rw [HSN.out]; go_num, L9.out⟩
                case measure => first | (simp [intOf]; done) | (simp [intOf]; omega)
          · have hkv2 : decide ((k : Int) < conv) = false := decide_eq_false hkv
            go_wp2
            go_loopw [11, 12] (fun i bv wr2 => ∃ j : Nat, j ≤ n ∧ i = .int .i64 j ∧ Below w6.heap.size w6 wr2) (fun i _ _ => n - (intOf i).toNat)
            case atStart => exact ⟨0, Nat.zero_le _, rfl, Below.refl _ _⟩
            case round =>
              obtain ⟨j, hj, rfl, hbl⟩ := hrel
              have HB := Lib.hid hbl
              clear hbl
              by_cases hjlt : j < n
              · have hji : (j : Int) < (n : Int) := by omega
                obtain ⟨o, ho⟩ : ∃ o, os[j]? = some o := ⟨os[j]'(by rw [HNn.out]; exact hjlt), by simp [HNn.out, hjlt]⟩
                obtain ⟨ad, rfl, _, _⟩ := pair_at O6.out (k := j) (x := ((k : Int), (o : Int))) (by rw [List.getElem?_map, ho]; rfl)
                have HX := Lib.hid fun w' (h : Below w6.heap.size w6 w') (i p : Nat) (hp : os[i]? = some p) => (by
                  obtain ⟨ad2, e2, _, h0, h1⟩ := pair_at (O6.out.below h) (k := i) (x := ((k : Int), (p : Int))) (by rw [List.getElem?_map, hp]; rfl)
                  obtain rfl : ad = ad2 := by injection e2
                  exact ⟨h0, h1⟩ : w'.cell? (ad.add (i * 2)) = some (.int .i64 (k : Int)) ∧ w'.cell? ⟨(ad.add (i * 2)).block, (ad.add (i * 2)).off + 1, none⟩ = some (.int .i64 (p : Int)))
                have hlv := HLive.out o (List.mem_of_getElem? ho)
                have hob : o < 65536 := by
                  have := HOB.out o (List.mem_of_getElem? ho)
                  exact this
                have hBk := fun w' (h : LSv w0 w' d b c len conv soft seq size opn l) => lvblock_any w' ((k : Int), (o : Int)) (w64_of (by omega) (by omega)) (w64_of (by omega) (by omega)) h.2.1
                rw [hlv] at hBk
                have HBk := Lib.hid hBk
                obtain ⟨x0, x1⟩ := HX.out _ HB.out j o ho
                clear hlv hBk
                generalize pv conv seq size l ((k : Int), (o : Int)) = pvo at *
                go_wp2_with fail
                refine (HBk.out _ (L6.out.on HB.out)).mono ?_
                rintro e w8 ⟨rfl, hb8⟩
                have B8 := Lib.hid (HB.out.trans (hb8.mono HB.out.size))
                obtain ⟨y0, y1⟩ := HX.out _ B8.out j o ho
                have hzz : ((k : Int) != (k : Int)) = false := by simp
                clear hb8 x0 x1
                rcases Nat.eq_zero_or_pos j with hj0 | hj0
                · have hj0b : decide (0 < j) = false := decide_eq_false (by omega)
                  clear hj0
                  go_wp2
                  go_quiet (fail)
                  have B9 := Lib.hid (below_draws B8.out nq)
                  generalize w8.drewN nq = w9 at *
                  go_wp2
                  go_roundw
                  case rel => exact ⟨j + 1, by omega, by go_num, B9.out⟩
                  case measure => first | (simp [intOf]; done) | (simp [intOf]; omega)
                · obtain ⟨i, hij⟩ : ∃ i, j = i + 1 := ⟨j - 1, by omega⟩
                  have HIJ := Lib.hid hij
                  obtain ⟨p, hp⟩ : ∃ p, os[i]? = some p := ⟨os[i]'(by rw [HNn.out]; omega), List.getElem?_eq_getElem (by rw [HNn.out]; omega)⟩
                  obtain ⟨z0, z1⟩ := HX.out _ B8.out i p hp
                  have hpo : p < o := by
                    have := List.pairwise_iff_getElem.1 HSrt.out i j (by rw [HNn.out]; omega) (by rw [HNn.out]; omega) (by omega)
                    obtain ⟨_, rfl⟩ := List.getElem?_eq_some_iff.1 hp
                    obtain ⟨_, rfl⟩ := List.getElem?_eq_some_iff.1 ho
                    exact this
                  have hge : decide (o ≤ p) = false := decide_eq_false (by omega)
                  have hi1 : (j : Int) - 1 = (i : Int) := by omega
                  have hi0 : decide (0 < j) = true := decide_eq_true (by omega)
                  have hi2 : (i : Int) < (n : Int) := by omega
                  clear hpo hij hj0
                  go_wp2
                  go_quiet (fail)
                  have B9 := Lib.hid (below_draws B8.out nq)
                  generalize w8.drewN nq = w9 at *
                  go_wp2
                  go_roundw
                  case rel => exact ⟨j + 1, by omega, by go_num, B9.out⟩
                  case measure => first | (simp [intOf]; done) | (simp [intOf]; omega)
              · obtain rfl : n = j := by omega
                have L9 := Lib.hid (L6.out.on HB.out)
                go_wp2
                go_roundw
                case rel => exact ⟨k + 1, by omega, by go_num, by rw [HSN.out]; go_num, L9.out⟩
                case measure => first | (simp [intOf]; done) | (simp [intOf]; omega)
        · obtain rfl : N = k := by omega
          have hlz : decide ((N : Int) < conv + seq) = false := decide_eq_false (by rw [HN.out]; omega)
          have hsm := HSM.out
          rw [hsm]
          go_wp2
          go_ret
          exact ⟨rfl, H0.out.1.trans (HL.out.1.mono H0.out.1.size)⟩
end Go.Proofs.Ytajehmdmgkhkpaa

/-
  Layer 10: the law LiveKeeps.
-/
import Derived.Test.YtajehmdmgkhkpaaLvQ
namespace Go.Proofs.Ytajehmdmgkhkpaa
open Go.RowKit Geom Lv
set_option linter.unusedVariables false

theorem elemIv : Elem Try.prog 40 3 (.int .i64 0) 1 8 := .of Try.underlying40 (by kernel_rfl) rfl (by omega)
set_option maxRecDepth 100000 in
set_option maxHeartbeats 4000000 in
theorem lvlaw_keeps (conv soft seq size opn : Int) (A : Option Addr) (len cap : Nat) (ps : List Int) (zone : Int) (w : World) (hts : ps.length = len) (hp64 : W64 zone) (hr : Rd w w.heap.size A (is ps)) :
    Calls Try.prog 7 #[.agg #[.int .i64 conv, .int .i64 soft, .int .i64 seq, .int .i64 size, .int .i64 opn], .slice A len cap, .int .i64 zone] w fun e w' => e = .returned (.bool true) ∧ Below w.heap.size w w' := by
  have HP64 := Lib.hid hp64
  clear hp64
  have hbox := Lies.new w conv soft seq size opn 23 (0, 0)
  have hb0 : Below w.heap.size w (w.alloc (.cells #[.int .i64 conv, .int .i64 soft, .int .i64 seq, .int .i64 size, .int .i64 opn] 23)) := below_alloc1 (Below.refl _ _)
  have hsz0 : (w.alloc (.cells #[.int .i64 conv, .int .i64 soft, .int .i64 seq, .int .i64 size, .int .i64 opn] 23)).heap.size = w.heap.size + 1 := by simp
  have hr0 := (hr.below hb0).more hb0.size
  have HTs := Lib.hid hts
  clear hr hts
  go_enter Try.func7, Try.ntmps7
  go_wp2_with fail
  generalize World.alloc _ _ = w0 at hbox hb0 hsz0 hr0 ⊢
  have SO := Lib.hid fun w' (h : Below w0.heap.size w0 w') => (⟨(hbox.below h).1, (hbox.below h).2.1, (hbox.below h).2.2.1, (hbox.below h).2.2.2.1, (hbox.below h).2.2.2.2.1⟩ :
    w'.cell? ⟨w.heap.size, 0, none⟩ = some (.int .i64 conv) ∧ w'.cell? ⟨w.heap.size, 1, none⟩ = some (.int .i64 soft) ∧ w'.cell? ⟨w.heap.size, 2, none⟩ = some (.int .i64 seq) ∧ w'.cell? ⟨w.heap.size, 3, none⟩ = some (.int .i64 size) ∧ w'.cell? ⟨w.heap.size, 4, none⟩ = some (.int .i64 opn))
  have H0 := Lib.hid (And.intro hb0 (And.intro hsz0 hr0))
  clear hbox hb0 hsz0 hr0
  refine (awake10_any w0).mono ?_
  rintro e w1 ⟨rfl, hb1⟩
  have B1 := Lib.hid hb1
  obtain ⟨c0, c1, c2, c3, c4⟩ := SO.out _ hb1
  clear hb1
  have HLi := Lib.hid (little_any conv soft seq size opn w1)
  cases hlit : litB conv soft seq size opn
  · rw [hlit] at HLi
    go_wp2_with fail
    refine HLi.out.mono ?_
    rintro e w2 ⟨rfl, hb2⟩
    have B2 := Lib.hid (bthen B1.out hb2)
    clear c0 c1 c2 c3 c4 hb2
    go_wp2_with fail
    refine (awake10_any w2).mono ?_
    rintro e w3 ⟨rfl, hb9⟩
    have B9 := Lib.hid (bthen B2.out hb9)
    clear hb9
    go_wp2
    go_ret
    exact ⟨rfl, H0.out.1.trans (B9.out.mono H0.out.1.size)⟩
  rw [hlit] at HLi
  have HY := Lib.hid (lit_yes hlit)
  clear hlit
  go_wp2_with fail
  refine HLi.out.mono ?_
  rintro e w2 ⟨rfl, hb2⟩
  have B2 := Lib.hid (bthen B1.out hb2)
  clear c0 c1 c2 c3 c4 hb2 B1 HLi
  by_cases h60 : 60 < len
  · go_wp2_with fail
    refine (awake10_any w2).mono ?_
    rintro e w3 ⟨rfl, hb9⟩
    have B9 := Lib.hid (bthen B2.out hb9)
    clear hb9
    go_wp2
    go_ret
    exact ⟨rfl, H0.out.1.trans (B9.out.mono H0.out.1.size)⟩
  have hlen : len ≤ 60 := by omega
  have hleI : (len : Int) ≤ 60 := by omega
  have HLen := Lib.hid hlen
  clear h60
  obtain ⟨c0, c1, c2, c3, c4⟩ := SO.out _ B2.out
  have HR2 := Lib.hid ((H0.out.2.2.below B2.out).more B2.out.size)
  have HIl := Lib.hid (show (is ps).length = len * 1 from by rw [is_length, HTs.out]; omega)
  clear c0 c1 c2 c3 c4
  go_wp2_with (at_builtin; go_loud (refine wpList_append_copy _ rfl _ _ _ rfl 3 _ 1 8 elemIv rfl A len cap rfl (is ps) HIl.out HR2.out (is_one ps) (by have := HLen.out; simp only [maxLen]; omega) (by have := HLen.out; omega) ?_); intro A2 k2 w2b hown hb2; have B2b := Lib.hid (B2.out.trans (hb2.mono B2.out.size)); have HW2 := Lib.hid (Rd.own hown); clear hown hb2; obtain ⟨c0, c1, c2, c3, c4⟩ := SO.out _ B2b.out)
  have hO := lvof_any conv soft seq size opn w2b HY.out.1 A cap ps (by rw [HTs.out]; omega) ((H0.out.2.2.below B2b.out).more B2b.out.size)
  rw [HTs.out] at hO
  cases hof : ofK seq size ps len with
  | none =>
    rw [hof] at hO
    have HO := Lib.hid hO
    clear hO hof
    refine HO.out.mono ?_
    rintro e w3 ⟨hq, hb3⟩
    obtain rfl := lvof_none hq
    have B3 := Lib.hid (B2b.out.trans (hb3.mono B2b.out.size))
    have B3z := Lib.hid hb3
    have HW3 := HW2
    clear hq hb3 HO B2 c0 c1 c2 c3 c4
    have HWas := Lib.hid ((HW3.out.below B3z.out).more B3z.out.size)
    have HPs := Lib.hid (H0.out.2.2.below B3.out)
    go_wp2
    go_loopw [10] (fun i wr => ∃ k : Nat, k ≤ len ∧ i = .int .i64 k ∧ ∃ q, w3.drewN q = wr) (fun i _ => len - (intOf i).toNat)
    case atStart => exact ⟨0, Nat.zero_le _, rfl, 0, rfl⟩
    case round =>
      obtain ⟨k, hk, rfl, q, rfl⟩ := hrel
      by_cases hlt : k < len
      · have hki : (k : Int) < (len : Int) := by omega
        obtain ⟨ad, rfl, _, ck⟩ := HPs.out.at (is_get (zs := ps) (k := k) (by rw [HTs.out]; exact hlt))
        obtain ⟨ad2, rfl, _, ck2⟩ := HWas.out.at (is_get (zs := ps) (k := k) (by rw [HTs.out]; exact hlt))
        generalize ps.getD k 0 = x at *
        have hq : (x != x) = false := by simp
        go_wp2
        go_quiet (fail)
        go_wp2
        go_roundw
        case rel => exact ⟨k + 1, by omega, by go_num, _, rfl⟩
        case measure => first | (simp [intOf]; done) | (simp [intOf]; omega)
      · obtain rfl : len = k := by omega
        have B4 := Lib.hid (below_draws B3.out q)
        generalize w3.drewN q = w4 at *
        go_wp2
        go_ret
        exact ⟨rfl, H0.out.1.trans (B4.out.mono H0.out.1.size)⟩
  | some l0 =>
    rw [hof] at hO
    have HO := Lib.hid hO
    clear hO hof
    refine HO.out.mono ?_
    rintro e w3 ⟨hq, hb3⟩
    obtain ⟨d, b, c, rfl, t3, hd3, hbb3, hc3⟩ := lvof_some hq
    have L3 : Hid (LSv w0 w3 d b c len conv soft seq size opn l0) := Lib.hid ⟨B2b.out.trans (hb3.mono B2b.out.size), t3, by have := B2b.out.size; omega, by have := B2b.out.size; omega⟩
    have B3 := Lib.hid (B2b.out.trans (hb3.mono B2b.out.size))
    have B3z := Lib.hid hb3
    have HW3 := HW2
    clear hq hb3 t3 hd3 hbb3 hc3 HO B2 c0 c1 c2 c3 c4
    have HWas := Lib.hid ((HW3.out.below B3z.out).more B3z.out.size)
    have HPs := Lib.hid (H0.out.2.2.below B3.out)
    go_wp2
    go_loopw [10] (fun i wr => ∃ k : Nat, k ≤ len ∧ i = .int .i64 k ∧ ∃ q, w3.drewN q = wr) (fun i _ => len - (intOf i).toNat)
    case atStart => exact ⟨0, Nat.zero_le _, rfl, 0, rfl⟩
    case round =>
      obtain ⟨k, hk, rfl, q, rfl⟩ := hrel
      by_cases hlt : k < len
      · have hki : (k : Int) < (len : Int) := by omega
        obtain ⟨ad, rfl, _, ck⟩ := HPs.out.at (is_get (zs := ps) (k := k) (by rw [HTs.out]; exact hlt))
        obtain ⟨ad2, rfl, _, ck2⟩ := HWas.out.at (is_get (zs := ps) (k := k) (by rw [HTs.out]; exact hlt))
        generalize ps.getD k 0 = x at *
        have hq : (x != x) = false := by simp
        go_wp2
        go_quiet (fail)
        go_wp2
        go_roundw
        case rel => exact ⟨k + 1, by omega, by go_num, _, rfl⟩
        case measure => first | (simp [intOf]; done) | (simp [intOf]; omega)
      · obtain rfl : len = k := by omega
        have L4 := Lib.hid (L3.out.drewN q)
        generalize w3.drewN q = w4 at *
        clear HWas HPs B3 B3z L3 HW3
        have HZC := Lib.hid (zos_cn (soft := soft) L4.out.2.1.ok L4.out.2.1.wl zone)
        have HZ := Lib.hid fun w' (t : LSv w0 w' d b c len conv soft seq size opn l0) => lvzone_any w' zone HP64.out HY.out.2.2.1 t.2.1
        have HCn := Lib.hid fun w' (t : LSv w0 w' d b c len conv soft seq size opn l0) => lvcount_any w' zone HP64.out t.2.1
        rw [← HZC.out] at HCn
        have hnl : (zos conv soft seq size l0 zone).length ≤ 65536 := by
          have h1 := zo_le (conv := conv) (seq := seq) (size := size) (l := l0) zone (sectors conv soft seq size zone).toNat
          have h2 := sectors_bd (z := zone) HY.out.2.1 HY.out.2.2.1
          show (zo conv seq size l0 zone (sectors conv soft seq size zone).toNat).length ≤ 65536
          omega
        have HNL := Lib.hid hnl
        clear hnl HZC
        generalize zos conv soft seq size l0 zone = os at *
        generalize hn : os.length = n at *
        have HN := Lib.hid hn
        clear hn
        go_wp2_with fail
        refine (HZ.out _ L4.out).mono ?_
        rintro e w5 ⟨V5, rfl, hown5, hb5⟩
        obtain ⟨A5, k5, rfl⟩ := own_slice hown5
        have L5 := Lib.hid (L4.out.on hb5)
        have O5 := Lib.hid (And.intro hown5 hb5)
        clear hown5 hb5
        go_wp2_with fail
        refine (HZ.out _ L5.out).mono ?_
        rintro e w6 ⟨V6, rfl, hown6, hb6⟩
        obtain ⟨A6, k6, rfl⟩ := own_slice hown6
        have O6 := Lib.hid (And.intro hown6 (And.intro (own_below O5.out.1 hb6) (O5.out.2.trans (hb6.mono O5.out.2.size))))
        have G5 := Lib.hid fun g (e : A5 = some ⟨g, 0, none⟩) => (show g < w5.heap.size from (O5.out.1.lt g (by rw [e]; rfl)).2)
        clear hown6 hb6 L5
        go_wp2
        go_loopw [13] (fun i wr => ∃ k : Nat, k ≤ n ∧ i = .int .i64 k ∧ (∃ xs, wr.ownsRow w4.heap.size 50 2 (.slice A5 n k5) n xs) ∧ wr.ownsRow w5.heap.size 50 2 (.slice A6 n k6) n (acs zone os) ∧ Below w4.heap.size w4 wr) (fun i _ => n - (intOf i).toNat)
        case atStart => exact ⟨0, Nat.zero_le _, rfl, ⟨_, O6.out.2.1⟩, O6.out.1, O6.out.2.2⟩
        case round =>
          clear O6 O5
          obtain ⟨k, hk, rfl, ⟨xs, hown⟩, hown2, hbl⟩ := hrel
          have HBl := Lib.hid hbl
          have HO2 := Lib.hid hown2
          clear hbl hown2
          by_cases hlt : k < n
          · obtain ⟨g, rfl, hgw, hgl⟩ := own_at hown (by omega)
            have hl := hown.1
            obtain ⟨u, d1⟩ : ∃ u, wr.cell? ⟨g, k * 2 + 1, none⟩ = some u := ⟨_, (hown.cellAt (k * 2 + 1) (by omega)).trans (List.getElem?_eq_getElem (by omega))⟩
            have hf := hown.frozenAt (k * 2 + 1)
            obtain ⟨hown3, hgr⟩ := hown.stored (k * 2 + 1) (.int .i64 (-7))
            have HO3 := Lib.hid hown3
            have hg5 := G5.out g rfl
            have HO4 := Lib.hid (own_same (w1 := wr.setCell ⟨g, k * 2 + 1, none⟩ (.int .i64 (-7))) HO2.out fun g6 hg6 => heap_setCell_other _ _ _ _ (by
              have := (HO2.out.lt g6 hg6).1
              show g6 ≠ g
              omega))
            have HB3 := Lib.hid (below_stored HBl.out hgr HBl.out.size hgw)
            have hki : (k : Int) < (n : Int) := by omega
            have hnb := HNL.out
            clear hown hown3 hgr hl hg5
            go_wp2
            go_roundw
            case rel => exact ⟨k + 1, by omega, by go_num, ⟨_, HO3.out⟩, HO4.out, HB3.out⟩
            case measure => first | (simp [intOf]; done) | (simp [intOf]; omega)
          · obtain rfl : n = k := by omega
            clear hown
            have L7 := Lib.hid (L4.out.on HBl.out)
            go_wp2_with fail
            refine (HZ.out _ L7.out).mono ?_
            rintro e w8 ⟨V8, rfl, hown8, hb8⟩
            obtain ⟨A8, k8, rfl⟩ := own_slice hown8
            have L8 := Lib.hid (L7.out.on hb8)
            have HSA := Lib.hid (rsame_any A8 A6 n k8 n k6 w8 (by have := HNL.out; unfold maxLen; omega) (by have := HNL.out; unfold maxLen; omega) (os.map fun (o : Nat) => (zone, (o : Int))) (os.map fun (o : Nat) => (zone, (o : Int))) (by rw [List.length_map]; exact HN.out) (by rw [List.length_map]; exact HN.out) w8.heap.size
              (by rw [← acs_ccs]; exact Rd.own hown8) (by rw [← acs_ccs]; exact ((Rd.own HO2.out).below hb8).more hb8.size))
            rw [show (((os.map fun (o : Nat) => (zone, (o : Int))) == (os.map fun (o : Nat) => (zone, (o : Int)))) = true) from beq_self_eq_true _] at HSA
            clear hown8 hb8
            go_wp2_with fail
            refine HSA.out.mono ?_
            rintro e w9 ⟨rfl, q2, rfl⟩
            have L9 := Lib.hid (L8.out.drewN q2)
            generalize w8.drewN q2 = w9 at *
            go_wp2_with fail
            refine (HCn.out _ L9.out).mono ?_
            rintro e w10 ⟨rfl, rfl⟩
            go_wp2
            go_ret
            exact ⟨rfl, H0.out.1.trans (L9.out.1.mono H0.out.1.size)⟩
end Go.Proofs.Ytajehmdmgkhkpaa

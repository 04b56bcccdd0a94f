/-
  Layer 10: the law LiveActs.
-/
import Derived.Test.YtajehmdmgkhkpaaLvK
namespace Go.Proofs.Ytajehmdmgkhkpaa
open Go.RowKit Geom Lv
set_option linter.unusedVariables false

set_option maxRecDepth 100000 in
set_option maxHeartbeats 4000000 in
theorem lvlaw_acts (conv soft seq size opn : Int) (A : Option Addr) (len cap : Nat) (ts : List Ac) (w : World) (hts : ts.length = len) (h64 : ∀ t ∈ ts, W64 t.p) (hr : Rd w w.heap.size A (acl ts)) :
    Calls Try.prog 3 #[.agg #[.int .i64 conv, .int .i64 soft, .int .i64 seq, .int .i64 size, .int .i64 opn], .slice A len cap] w fun e w' => e = .returned (.bool true) ∧ Below w.heap.size w w' := by
  have H64 := Lib.hid h64
  clear h64
  have hbox := Lies.new w conv soft seq size opn 23 (0, 0)
  have hb0 : Below w.heap.size w (w.alloc (.cells #[.int .i64 conv, .int .i64 soft, .int .i64 seq, .int .i64 size, .int .i64 opn] 23)) := below_alloc1 (Below.refl _ _)
  have hsz0 : (w.alloc (.cells #[.int .i64 conv, .int .i64 soft, .int .i64 seq, .int .i64 size, .int .i64 opn] 23)).heap.size = w.heap.size + 1 := by simp
  have hr0 := (hr.below hb0).more hb0.size
  have HTs := Lib.hid hts
  clear hr hts
  go_enter Try.func3, Try.ntmps3
  go_wp2_with fail
  generalize World.alloc _ _ = w0 at hbox hb0 hsz0 hr0 ⊢
  have SO := Lib.hid fun w' (h : Below w0.heap.size w0 w') => (⟨(hbox.below h).1, (hbox.below h).2.1, (hbox.below h).2.2.1, (hbox.below h).2.2.2.1, (hbox.below h).2.2.2.2.1⟩ :
    w'.cell? ⟨w.heap.size, 0, none⟩ = some (.int .i64 conv) ∧ w'.cell? ⟨w.heap.size, 1, none⟩ = some (.int .i64 soft) ∧ w'.cell? ⟨w.heap.size, 2, none⟩ = some (.int .i64 seq) ∧ w'.cell? ⟨w.heap.size, 3, none⟩ = some (.int .i64 size) ∧ w'.cell? ⟨w.heap.size, 4, none⟩ = some (.int .i64 opn))
  have H0 := Lib.hid (And.intro hb0 (And.intro hsz0 hr0))
  clear hbox hb0 hsz0 hr0
  refine (awake10_any w0).mono ?_
  rintro e w1 ⟨rfl, hb1⟩
  have B1 := Lib.hid hb1
  obtain ⟨c0, c1, c2, c3, c4⟩ := SO.out _ hb1
  clear hb1
  have HLi := Lib.hid (little_any conv soft seq size opn w1)
  cases hlit : litB conv soft seq size opn
  · rw [hlit] at HLi
    go_wp2_with fail
    refine HLi.out.mono ?_
    rintro e w2 ⟨rfl, hb2⟩
    have B2 := Lib.hid (bthen B1.out hb2)
    clear c0 c1 c2 c3 c4 hb2
    go_wp2_with fail
    refine (awake10_any w2).mono ?_
    rintro e w3 ⟨rfl, hb9⟩
    have B9 := Lib.hid (bthen B2.out hb9)
    clear hb9
    go_wp2
    go_ret
    exact ⟨rfl, H0.out.1.trans (B9.out.mono H0.out.1.size)⟩
  rw [hlit] at HLi
  have HY := Lib.hid (lit_yes hlit)
  clear hlit
  go_wp2_with fail
  refine HLi.out.mono ?_
  rintro e w2 ⟨rfl, hb2⟩
  have B2 := Lib.hid (bthen B1.out hb2)
  clear c0 c1 c2 c3 c4 hb2 B1 HLi
  by_cases h60 : 60 < len
  · go_wp2_with fail
    refine (awake10_any w2).mono ?_
    rintro e w3 ⟨rfl, hb9⟩
    have B9 := Lib.hid (bthen B2.out hb9)
    clear hb9
    go_wp2
    go_ret
    exact ⟨rfl, H0.out.1.trans (B9.out.mono H0.out.1.size)⟩
  have hlen : len ≤ 60 := by omega
  have hleI : (len : Int) ≤ 60 := by omega
  have HLen := Lib.hid hlen
  clear h60
  obtain ⟨c0, c1, c2, c3, c4⟩ := SO.out _ B2.out
  have HN := Lib.hid (lvnew_any conv soft seq size opn w2 HY.out.1)
  go_wp2_with fail
  refine HN.out.mono ?_
  rintro e w3 ⟨d, b, c, rfl, t3, hd3, hb3, hc3, hbl3⟩
  have L3 : Hid (LSv w0 w3 d b c 0 conv soft seq size opn []) := Lib.hid ⟨B2.out.trans (hbl3.mono B2.out.size), t3, by have := B2.out.size; omega, by have := B2.out.size; omega⟩
  clear t3 hd3 hb3 hc3 hbl3 HN c0 c1 c2 c3 c4
  go_wp2
  go_loopw [6, 7] (fun V i wr => ∃ k : Nat, k ≤ len ∧ i = .int .i64 k ∧ LSv w0 wr d b c k conv soft seq size opn (runA seq size (ts.take k)) ∧ ClIs wr V (runA seq size (ts.take k))) (fun _ i _ => len - (intOf i).toNat)
  case atStart => exact ⟨0, Nat.zero_le _, rfl, L3.out, ClIs.nil _⟩
  case round =>
    clear L3
    obtain ⟨k, hk, rfl, hls, hcl⟩ := hrel
    have HL := Lib.hid (And.intro hls hcl)
    clear hls hcl
    by_cases hlt : k < len
    · have hkl : k < ts.length := by rw [HTs.out]; exact hlt
      obtain ⟨x, hx⟩ : ∃ x, ts[k]? = some x := ⟨ts[k], by simp [hkl]⟩
      have HX64 := Lib.hid (H64.out x (List.mem_of_getElem? hx))
      obtain ⟨ad, rfl, hadb, hcs⟩ := act_at H0.out.2.2 hx
      have HSn := Lib.hid (runA_snoc (seq := seq) (size := size) hx)
      have HC := Lib.hid fun W (hW : Below w0.heap.size w0 W) => hcs W (fun p hp => hW.cell hp)
      obtain ⟨c0, c1, c2⟩ := HC.out _ HL.out.1.1
      have hki : (k : Int) < (len : Int) := by omega
      clear hcs hkl hx hadb
      obtain ⟨dr, xp, xb⟩ := x
      simp only at HX64 HSn HC c0 c1 c2
      cases dr
      · have HDo := Lib.hid fun w' (hb : Below wr.heap.size wr w') => rdo_any conv soft seq size opn w' HY.out.2.1 u6 (runA seq size (ts.take k)) (by have := HL.out.1.2.1.hl; have := HLen.out; omega) (HL.out.2.on hb) xp xb HX64.out false
        go_wp2_with fail
        have hx2 := LiesAt.new wr xp xb 31 (0, 0)
        have hbw : Below wr.heap.size wr (wr.alloc (.cells #[.int .i64 xp, .int .i64 xb] 31)) := below_alloc1 (Below.refl _ _)
        have hB0 : Below w0.heap.size w0 (wr.alloc (.cells #[.int .i64 xp, .int .i64 xb] 31)) := HL.out.1.1.trans (hbw.mono HL.out.1.1.size)
        have hszw : (wr.alloc (.cells #[.int .i64 xp, .int .i64 xb] 31)).heap.size = wr.heap.size + 1 := by simp
        generalize World.alloc wr _ = w4 at hx2 hbw hB0 hszw ⊢
        have HW := Lib.hid (And.intro hbw (And.intro hB0 hszw))
        have SK := Lib.hid fun w' (h : Below w4.heap.size w4 w') => (⟨SO.out _ (hB0.trans (h.mono hB0.size)), ⟨(hx2.below h).1, (hx2.below h).2.1⟩, (HC.out _ (hB0.trans (h.mono hB0.size))).1⟩ :
          ((w'.cell? ⟨w.heap.size, 0, none⟩ = some (.int .i64 conv) ∧ w'.cell? ⟨w.heap.size, 1, none⟩ = some (.int .i64 soft) ∧ w'.cell? ⟨w.heap.size, 2, none⟩ = some (.int .i64 seq) ∧ w'.cell? ⟨w.heap.size, 3, none⟩ = some (.int .i64 size) ∧ w'.cell? ⟨w.heap.size, 4, none⟩ = some (.int .i64 opn)) ∧ (w'.cell? ⟨wr.heap.size, 0, none⟩ = some (.int .i64 xp) ∧ w'.cell? ⟨wr.heap.size, 1, none⟩ = some (.int .i64 xb)) ∧ w'.cell? (ad.add (k * 3)) = some (.bool false)))
        clear hx2 hbw hB0 hszw c0 c1 c2
        generalize wr.heap.size = bx at SK ⊢
        go_region_held3 (fun w' => (w'.cell? ⟨w.heap.size, 0, none⟩ = some (.int .i64 conv) ∧ w'.cell? ⟨w.heap.size, 1, none⟩ = some (.int .i64 soft) ∧ w'.cell? ⟨w.heap.size, 2, none⟩ = some (.int .i64 seq) ∧ w'.cell? ⟨w.heap.size, 3, none⟩ = some (.int .i64 size) ∧ w'.cell? ⟨w.heap.size, 4, none⟩ = some (.int .i64 opn)) ∧ (w'.cell? ⟨bx, 0, none⟩ = some (.int .i64 xp) ∧ w'.cell? ⟨bx, 1, none⟩ = some (.int .i64 xb)) ∧ w'.cell? (ad.add (k * 3)) = some (.bool false))
          ((refine SK.out _ ?_; first | exact Below.refl _ _ | exact (Below.refl _ _).drew | exact B5 | exact B5.drew))
          (((with_reducible refine (HDo.out _ HW.out.1.drew).mono ?_); rintro e w5 ⟨V5, rfl, hv5, hb5⟩; have B5 : Below w4.heap.size w4 w5 := (Below.refl w4.heap.size w4).drew.trans hb5))
        all_goals
          have HV5 := Lib.hid hv5
          have L5 := Lib.hid (HL.out.1.on (bthen HW.out.1 B5))
          obtain ⟨a0, a1⟩ := (SK.out _ B5).2.1
          have af := (SK.out _ B5).2.2
          clear hv5 hb5 B5
          have HG := Lib.hid (lvadd_any w5 xp xb L5.out.2.1 (by have := HLen.out; omega))
          generalize hgg : (doM seq size (runA seq size (ts.take k)) xp xb false).2 = gg at *
          clear hgg
          have hq : (gg != gg) = false := by simp
          have hq2 : (!(gg == gg)) = false := by simp
          go_wp2_with fail
          refine HG.out.mono ?_
          rintro e w6 ⟨rfl, t6, f6⟩
          have L6 := Lib.hid (L5.out.put t6 f6)
          have V6 := Lib.hid (HV5.out.fr L5.out.2.1 f6)
          clear t6 f6 a0 a1 af
          go_wp2
          go_roundw
          case rel => exact ⟨k + 1, by omega, by go_num, by rw [HSn.out]; exact L6.out, by rw [HSn.out]; exact V6.out⟩
          case measure => first | (simp [intOf]; done) | (simp [intOf]; omega)
      · have HDo := Lib.hid fun w' (hb : Below wr.heap.size wr w') => rdo_any conv soft seq size opn w' HY.out.2.1 u6 (runA seq size (ts.take k)) (by have := HL.out.1.2.1.hl; have := HLen.out; omega) (HL.out.2.on hb) xp xb HX64.out true
        go_wp2_with fail
        have hx2 := LiesAt.new wr xp xb 31 (0, 0)
        have hbw : Below wr.heap.size wr (wr.alloc (.cells #[.int .i64 xp, .int .i64 xb] 31)) := below_alloc1 (Below.refl _ _)
        have hB0 : Below w0.heap.size w0 (wr.alloc (.cells #[.int .i64 xp, .int .i64 xb] 31)) := HL.out.1.1.trans (hbw.mono HL.out.1.1.size)
        have hszw : (wr.alloc (.cells #[.int .i64 xp, .int .i64 xb] 31)).heap.size = wr.heap.size + 1 := by simp
        generalize World.alloc wr _ = w4 at hx2 hbw hB0 hszw ⊢
        have HW := Lib.hid (And.intro hbw (And.intro hB0 hszw))
        have SK := Lib.hid fun w' (h : Below w4.heap.size w4 w') => (⟨SO.out _ (hB0.trans (h.mono hB0.size)), ⟨(hx2.below h).1, (hx2.below h).2.1⟩, (HC.out _ (hB0.trans (h.mono hB0.size))).1⟩ :
          ((w'.cell? ⟨w.heap.size, 0, none⟩ = some (.int .i64 conv) ∧ w'.cell? ⟨w.heap.size, 1, none⟩ = some (.int .i64 soft) ∧ w'.cell? ⟨w.heap.size, 2, none⟩ = some (.int .i64 seq) ∧ w'.cell? ⟨w.heap.size, 3, none⟩ = some (.int .i64 size) ∧ w'.cell? ⟨w.heap.size, 4, none⟩ = some (.int .i64 opn)) ∧ (w'.cell? ⟨wr.heap.size, 0, none⟩ = some (.int .i64 xp) ∧ w'.cell? ⟨wr.heap.size, 1, none⟩ = some (.int .i64 xb)) ∧ w'.cell? (ad.add (k * 3)) = some (.bool true)))
        clear hx2 hbw hB0 hszw c0 c1 c2
        generalize wr.heap.size = bx at SK ⊢
        go_region_held3 (fun w' => (w'.cell? ⟨w.heap.size, 0, none⟩ = some (.int .i64 conv) ∧ w'.cell? ⟨w.heap.size, 1, none⟩ = some (.int .i64 soft) ∧ w'.cell? ⟨w.heap.size, 2, none⟩ = some (.int .i64 seq) ∧ w'.cell? ⟨w.heap.size, 3, none⟩ = some (.int .i64 size) ∧ w'.cell? ⟨w.heap.size, 4, none⟩ = some (.int .i64 opn)) ∧ (w'.cell? ⟨bx, 0, none⟩ = some (.int .i64 xp) ∧ w'.cell? ⟨bx, 1, none⟩ = some (.int .i64 xb)) ∧ w'.cell? (ad.add (k * 3)) = some (.bool true))
          ((refine SK.out _ ?_; first | exact Below.refl _ _ | exact (Below.refl _ _).drew | exact B5 | exact B5.drew))
          (((with_reducible refine (HDo.out _ HW.out.1.drew).mono ?_); rintro e w5 ⟨V5, rfl, hv5, hb5⟩; have B5 : Below w4.heap.size w4 w5 := (Below.refl w4.heap.size w4).drew.trans hb5))
        all_goals
          have HV5 := Lib.hid hv5
          have L5 := Lib.hid (HL.out.1.on (bthen HW.out.1 B5))
          obtain ⟨a0, a1⟩ := (SK.out _ B5).2.1
          have af := (SK.out _ B5).2.2
          clear hv5 hb5 B5
          have HG := Lib.hid (lvdrop_any w5 xp xb L5.out.2.1 (by have := HLen.out; omega))
          generalize hgg : (doM seq size (runA seq size (ts.take k)) xp xb true).2 = gg at *
          clear hgg
          have hq : (gg != gg) = false := by simp
          have hq2 : (!(gg == gg)) = false := by simp
          go_wp2_with fail
          refine HG.out.mono ?_
          rintro e w6 ⟨rfl, t6, f6⟩
          have L6 := Lib.hid (L5.out.put t6 f6)
          have V6 := Lib.hid (HV5.out.fr L5.out.2.1 f6)
          clear t6 f6 a0 a1 af
          go_wp2
          go_roundw
          case rel => exact ⟨k + 1, by omega, by go_num, by rw [HSn.out]; exact L6.out, by rw [HSn.out]; exact V6.out⟩
          case measure => first | (simp [intOf]; done) | (simp [intOf]; omega)
    · obtain rfl : len = k := by omega
      obtain ⟨c0, c1, c2, c3, c4⟩ := SO.out _ HL.out.1.1
      have HSh := Lib.hid (shows_any conv soft seq size opn wr HY.out.2.2.1 u6 (runA seq size (ts.take len)) (by have := HL.out.1.2.1.hl; have := HLen.out; omega) HL.out.2 (wl_w64 HL.out.1.2.1.ok HL.out.1.2.1.wl) HL.out.1.2.1)
      go_wp2_with fail
      refine HSh.out.mono ?_
      rintro e w9 ⟨rfl, hb9⟩
      have B9 := Lib.hid (HL.out.1.1.trans (hb9.mono HL.out.1.1.size))
      clear hb9
      go_wp2
      go_ret
      exact ⟨rfl, H0.out.1.trans (B9.out.mono H0.out.1.size)⟩
end Go.Proofs.Ytajehmdmgkhkpaa

/-
  Layer 10's laws: what they share: what is live shows a list.
-/
import Derived.Test.YtajehmdmgkhkpaaLvH
namespace Go.Proofs.Ytajehmdmgkhkpaa
open Go.RowKit Geom Lv
set_option linter.unusedVariables false

theorem wpList_box_store {P : Program} {w : World} {ops : Array Oper} {rest : List Oper} {o : Oper} {a : Act} {Q : Exit → Act → World → Prop} (hgd : o.guard = none) (t : TypeId) (x y : Operand) (ho : o.op = .store t x y) (g : Nat) (cs old : List Value) (hsz : (P.info? t).map (·.size) = some cs.length) (hold : old.length = cs.length)
    (h1 : ∀ u ∈ cs, u.oneCell' = true) (hx : a.eval x = .pointer (some ⟨g, 0, none⟩)) (hy : a.eval y = .agg cs.toArray) (hb : Box w g t old)
    (h : ∀ w', Box w' g t cs → w.grownBy w' (some g) → wpList P ops Q rest (a.put o.dst undef) w') : wpList P ops Q (o :: rest) a w :=
  wpList_store_box w hgd t x y ho g cs old hsz hold h1 hx hy hb
    (h _ (setRow_heap w g _ _ _ _ hb) ⟨rfl, rfl, rfl, by simp [World.setRow], fun k _ hk => setRow_other w g k _ (by intro e; exact hk (by rw [e]))⟩)
abbrev ats (z o : Int) : List Value := [.int .i64 z, .int .i64 o]
theorem zero_at2 (w : World) : (zeroValue 50).run Try.prog w = .ok (.agg (ats 0 0).toArray) w :=
  (zero_of_info (P := Try.prog) (t := 50) (v := .agg (ats 0 0).toArray) (n := 2) (by kernel_rfl)).1 w
theorem ats_size (z o : Int) : (Try.prog.info? 50).map (·.size) = some (ats z o).length := by
  show _ = some 2
  kernel_rfl
theorem ats_one (z o : Int) : ∀ u ∈ ats z o, u.oneCell' = true := by simp [ats, Value.oneCell']
theorem Box.at {w : World} {b : Nat} {T : TypeId} {z o : Int} (h : Box w b T (ats z o)) : w.cell? ⟨b, 0, none⟩ = some (.int .i64 z) ∧ w.cell? ⟨b, 1, none⟩ = some (.int .i64 o) := ⟨h.cell 0, h.cell 1⟩
theorem zos_cn {conv soft seq size : Int} {l : List (Int × Int)} (H : Some conv seq size) (hw : Wl seq size l) (z : Int) : (zos conv soft seq size l z).length = cn conv seq size l z := by
  obtain ⟨q1, q2, q3, q4, q5⟩ := H
  unfold zos
  by_cases hz : conv ≤ z ∧ z < conv + seq
  · have : sectors conv soft seq size z = size := by
      unfold sectors
      rw [if_neg (by omega), if_neg (by omega)]
    rw [this]
    exact zo_cn (by omega) hw z hz
  · rw [zo_low hz, cn_low (by omega) hw z hz]
    rfl
theorem plN_w64 {conv seq size n : Int} (H : Some conv seq size) : W64 (plN conv seq size n).1 ∧ W64 (plN conv seq size n).2 := by
  by_cases h : 1 ≤ n ∧ n ≤ seq * size
  · exact seat_w64 H (plN_seat (by obtain ⟨q1, q2, q3, q4, q5⟩ := H; omega) h)
  · unfold plN zoneOf offOf
    rw [if_neg h, if_neg h]
    exact ⟨w64_of (by omega) (by omega), w64_of (by omega) (by omega)⟩
/-- where all orders of a region come to one end, but for one block that hangs on the order -/
def MeetB (A : Nat → Act) (R : World → Nat → Prop) : Exit → Act → World → Prop
  | .normal, a, w => ∃ b, R w b ∧ a = A b
  | _, _, _ => False
theorem wp_meetB {P : Program} {c : Code} {Q : Exit → Act → World → Prop} {a : Act} {w : World} {A : Nat → Act} (R : World → Nat → Prop) (h : c.wp P (MeetB A R) a w) (h2 : ∀ w' b, R w' b → Q .normal (A b) w') : c.wp P Q a w :=
  Code.wp_mono (fun e a' w' hm => by
    cases e <;> first | exact (hm : False).elim | (obtain ⟨b, hr, rfl⟩ := (hm : ∃ b, R w' b ∧ a' = A b); exact h2 _ b hr)) h
theorem at_a {w1 w5 : World} (h : Below w1.heap.size w1 w5) (pz po : Int) :
    Below w1.heap.size w1 (w5.alloc (.cells #[.int .i64 pz, .int .i64 po] 50)) ∧ (w5.alloc (.cells #[.int .i64 pz, .int .i64 po] 50)).cell? ⟨w5.heap.size, 0, none⟩ = some (.int .i64 pz) ∧ (w5.alloc (.cells #[.int .i64 pz, .int .i64 po] 50)).cell? ⟨w5.heap.size, 1, none⟩ = some (.int .i64 po) := by
  have hx := LiesAt.new w5 pz po 50 (0, 0)
  exact ⟨h.alloc h.size _, hx.1, hx.2.1⟩
theorem at_b {w1 wr w5 : World} (h : Below w1.heap.size w1 wr) (h5 : Below w1.heap.size w1 w5) (hb : Below (wr.alloc (.cells #[.int .i64 0, .int .i64 0] 50)).heap.size (wr.alloc (.cells #[.int .i64 0, .int .i64 0] 50)).drew w5) (pz po : Int) :
    Below w1.heap.size w1 ((w5.setCell ⟨wr.heap.size, 0, none⟩ (.int .i64 pz)).setCell ⟨wr.heap.size, 1, none⟩ (.int .i64 po)) ∧ ((w5.setCell ⟨wr.heap.size, 0, none⟩ (.int .i64 pz)).setCell ⟨wr.heap.size, 1, none⟩ (.int .i64 po)).cell? ⟨wr.heap.size, 0, none⟩ = some (.int .i64 pz) ∧
      ((w5.setCell ⟨wr.heap.size, 0, none⟩ (.int .i64 pz)).setCell ⟨wr.heap.size, 1, none⟩ (.int .i64 po)).cell? ⟨wr.heap.size, 1, none⟩ = some (.int .i64 po) := by
  have hx : Box w5 wr.heap.size 50 (ats 0 0) := (Box.new wr 50 (ats 0 0)).same (hb.block _ (by simp))
  have hy := (hx.set 0 (.int .i64 pz)).set 1 (.int .i64 po)
  exact ⟨(h5.setCell h.size _).setCell h.size _, hy.cell 0, hy.cell 1⟩
set_option maxRecDepth 100000 in
set_option maxHeartbeats 4000000 in
theorem shows_any (conv soft seq size opn : Int) (w : World) (hs : 0 ≤ soft ∧ soft ≤ 65536) (V : Value) (l : List (Int × Int)) (hm : l.length ≤ 100000) (hV : ClIs w V l) (h64 : ∀ x ∈ l, W64 x.1) {d b c m : Nat} (t : LvIs w d b c m conv soft seq size opn l) :
    Calls Try.prog 15 #[.agg #[.int .i64 conv, .int .i64 soft, .int .i64 seq, .int .i64 size, .int .i64 opn], lvp d, V] w fun e w' => e = .returned (.bool true) ∧ Below w.heap.size w w' := by
  obtain ⟨A, cap, rfl, hcap, hcm, hr⟩ := hV
  have hbox := Lies.new w conv soft seq size opn 23 (0, 0)
  have hb0 : Below w.heap.size w (w.alloc (.cells #[.int .i64 conv, .int .i64 soft, .int .i64 seq, .int .i64 size, .int .i64 opn] 23)) := below_alloc1 (Below.refl _ _)
  have t1 := t.on hb0
  have hr1 := (hr.below hb0).more hb0.size
  have H := t.ok
  have hw := t.wl
  have HZC := Lib.hid fun z => zos_cn (soft := soft) H hw z
  have HWL := Lib.hid hw
  have HOK := Lib.hid H
  have HSO := Lib.hid hs
  have H64 := Lib.hid h64
  obtain ⟨q1, q2, q3, q4, q5⟩ := id H
  generalize hL : l.length = len at *
  have HL := Lib.hid hL
  clear t hr hcap hcm hL hw hs h64 q4 q5
  go_enter Try.func15, Try.ntmps15
  go_wp2_with fail
  generalize World.alloc _ _ = w1 at hbox hb0 t1 hr1 ⊢
  have H1 := Lib.hid (And.intro hbox (And.intro hb0 (And.intro t1 hr1)))
  have SO := Lib.hid fun w' (h : Below w1.heap.size w1 w') => (hbox.below h : Lies w' w.heap.size conv soft seq size opn)
  clear hbox hb0 t1 hr1
  have hq : (-1 : Int) = ((0 : Nat) : Int) - 1 := by omega
  have hcs := IntWalk.i64_in (conv + seq) (by omega)
  obtain ⟨N, hN⟩ : ∃ N : Nat, conv + seq = (N : Int) := ⟨(conv + seq).toNat, by omega⟩
  have hN64 : N ≤ 64 := by omega
  have HN := Lib.hid hN
  go_loopw [7, 8] (fun i o wr => ∃ k : Nat, k ≤ N + 2 ∧ i = .int .i64 ((k : Int) - 1) ∧ Below w1.heap.size w1 wr) (fun i _ _ => (N + 1 - intOf i).toNat)
  case atStart => exact ⟨0, by omega, rfl, Below.refl _ _⟩
  case round =>
    obtain ⟨k, hk, rfl, hbl⟩ := hrel
    obtain ⟨c0, c1, c2, c3, c4, _⟩ := SO.out _ hbl
    have BL := Lib.hid hbl
    clear hbl
    by_cases hlt : (k : Int) - 1 ≤ conv + seq
    · have hz64 : W64 ((k : Int) - 1) := w64_of (by omega) (by omega)
      have HRZ := Lib.hid (rzone_any conv soft seq size opn wr HOK.out HSO.out ((k : Int) - 1) A cap len l HL.out hm ((H1.out.2.2.2.below BL.out).more BL.out.size))
      have HZ1 := Lib.hid (HZC.out ((k : Int) - 1))
      have HC := Lib.hid fun w' (h : Below w1.heap.size w1 w') => lvcount_any w' ((k : Int) - 1) hz64 (H1.out.2.2.1.on h)
      have HZ2 := Lib.hid fun w' (h : Below w1.heap.size w1 w') => lvzone_any w' ((k : Int) - 1) hz64 HSO.out (H1.out.2.2.1.on h)
      have hwr := IntWalk.i64_in ((k : Int) - 1) (by omega)
      have hnl : (zos conv soft seq size l ((k : Int) - 1)).length ≤ 65536 := by
        have h1 := zo_le (conv := conv) (seq := seq) (size := size) (l := l) ((k : Int) - 1) (sectors conv soft seq size ((k : Int) - 1)).toNat
        have h2 := sectors_bd (z := (k : Int) - 1) HOK.out HSO.out
        show (zo conv seq size l ((k : Int) - 1) (sectors conv soft seq size ((k : Int) - 1)).toNat).length ≤ 65536
        omega
      generalize zos conv soft seq size l ((k : Int) - 1) = os at *
      generalize cn conv seq size l ((k : Int) - 1) = cnt at *
      have hcnt : (os.length : Int) = (cnt : Int) := by rw [HZ1.out]
      have HNL := Lib.hid (And.intro hnl hcnt)
      clear hnl hcnt
      have hzb0 : (-1 : Int) ≤ (k : Int) - 1 := by omega
      have hzb1 : (k : Int) - 1 ≤ 64 := by omega
      generalize hzz : (k : Int) - 1 = z at *
      have HZZ := Lib.hid hzz
      clear hzz
      go_wp2_with fail
      refine HRZ.out.mono ?_
      rintro e w2 ⟨V2, rfl, hown2, hb2⟩
      obtain ⟨A2, cap2, rfl⟩ := own_slice hown2
      have B2 := Lib.hid (BL.out.trans (hb2.mono BL.out.size))
      have O2 := Lib.hid (And.intro hown2 (own_cap hown2))
      clear hb2 hown2 c0 c1 c2 c3 c4
      go_wp2_with fail
      refine (HC.out _ B2.out).mono ?_
      rintro e w3 ⟨rfl, rfl⟩
      have hne : ((cnt : Int) != (os.length : Int)) = false := by rw [HNL.out.2]; simp
      go_wp2_with fail
      refine (HZ2.out _ B2.out).mono ?_
      rintro e w4 ⟨V4, rfl, hown4, hb4⟩
      obtain ⟨A4, cap4, rfl⟩ := own_slice hown4
      have B4 := Lib.hid (B2.out.trans (hb4.mono B2.out.size))
      have HSA := Lib.hid (rsame_any A4 A2 os.length cap4 os.length cap2 w4 (by have := HNL.out.1; unfold maxLen; omega) (by have := HNL.out.1; unfold maxLen; omega) (os.map fun (o : Nat) => (z, (o : Int))) (os.map fun (o : Nat) => (z, (o : Int))) (by simp) (by simp) w4.heap.size
        (by rw [← acs_ccs]; exact Rd.own hown4) (by rw [← acs_ccs]; exact ((Rd.own O2.out.1).below hb4).more hb4.size))
      rw [show (((os.map fun (o : Nat) => (z, (o : Int))) == (os.map fun (o : Nat) => (z, (o : Int)))) = true) from beq_self_eq_true _] at HSA
      clear hown4 hb4
      go_wp2_with fail
      refine HSA.out.mono ?_
      rintro e w5 ⟨rfl, q, rfl⟩
      have B5 := Lib.hid (below_draws B4.out q)
      generalize w4.drewN q = w5 at *
      go_wp2
      go_roundw
      case rel => exact ⟨k + 1, by have := HZZ.out; have := HN.out; omega, by rw [show (((k + 1 : Nat) : Int) - 1) = z + 1 by have := HZZ.out; omega], B5.out⟩
      case measure => first | (simp [intOf]; done) | (simp [intOf]; have := HZZ.out; have := HN.out; omega)
    · have hwr := IntWalk.i64_in ((k : Int) - 1) (by omega)
      generalize hzz : (k : Int) - 1 = z at *
      have HZZ := Lib.hid hzz
      clear hzz
      have hd : decide (z ≤ conv + seq) = false := decide_eq_false hlt
      go_wp2
      clear hd hlt hwr hk c0 c1 c2 c3 c4 hcs hq hN hN64
      generalize wr = w2 at BL ⊢
      go_loopw [9, 10] (fun i o wr => ∃ j : Nat, j ≤ len ∧ i = .int .i64 j ∧ Below w1.heap.size w1 wr) (fun i _ _ => len - (intOf i).toNat)
      case atStart => exact ⟨0, by omega, rfl, BL.out⟩
      case round =>
        clear BL
        obtain ⟨j, hj, rfl, hbl⟩ := hrel
        have BL := Lib.hid hbl
        clear hbl
        by_cases hlt : j < len
        · obtain ⟨x, hx⟩ : ∃ x, l[j]? = some x := ⟨l[j]'(by rw [HL.out]; exact hlt), by simp [HL.out, hlt]⟩
          obtain ⟨ad, rfl, hadb, _⟩ := pair_at H1.out.2.2.2 hx
          have HX := Lib.hid fun w' (h : Below w1.heap.size w1 w') => (by
            obtain ⟨ad2, e2, _, h0, h1⟩ := pair_at (H1.out.2.2.2.below h) hx
            obtain rfl : ad = ad2 := by injection e2
            exact ⟨h0, h1⟩ : w'.cell? (ad.add (j * 2)) = some (.int .i64 x.1) ∧ w'.cell? ⟨(ad.add (j * 2)).block, (ad.add (j * 2)).off + 1, none⟩ = some (.int .i64 x.2))
          have hxl : lk l x.1 = some x.2 := lk_of HWL.out hx
          have hxin := HWL.out.2 x (List.mem_of_getElem? hx)
          have hpv : pv conv seq size l (plN conv seq size x.1) = some x.2 := by rw [pv_num (by obtain ⟨q1, q2, q3, q4, q5⟩ := HOK.out; omega) hxin, hxl]
          have hp64 := plN_w64 (n := x.1) HOK.out
          have HBk := Lib.hid fun w' (h : Below w1.heap.size w1 w') => lvblock_any w' (plN conv seq size x.1) hp64.1 hp64.2 (H1.out.2.2.1.on h)
          rw [hpv] at HBk
          have HAt := Lib.hid fun w' => rat_any conv soft seq size opn x.1 w' HOK.out (wf_i64 (H64.out x (List.mem_of_getElem? hx)))
          rw [show zoneOf conv seq size x.1 = (plN conv seq size x.1).1 from rfl, show offOf seq size x.1 = (plN conv seq size x.1).2 from rfl] at HAt
          generalize plN conv seq size x.1 = pl at *
          generalize isB seq size x.1 = ib at *
          generalize pl.1 = pz at *
          generalize pl.2 = po at *
          generalize x.1 = x1 at *
          generalize x.2 = x2 at *
          clear hx hxl hxin hpv hp64
          have hji : (j : Int) < (len : Int) := by omega
          go_wp2_with fail
          have SK := Lib.hid fun w' (h : Below w1.heap.size w1 w') => (⟨⟨(SO.out _ h).1, (SO.out _ h).2.1, (SO.out _ h).2.2.1, (SO.out _ h).2.2.2.1, (SO.out _ h).2.2.2.2.1⟩, (HX.out _ h).1⟩ : ((w'.cell? ⟨w.heap.size, 0, none⟩ = some (.int .i64 conv) ∧ w'.cell? ⟨w.heap.size, 1, none⟩ = some (.int .i64 soft) ∧ w'.cell? ⟨w.heap.size, 2, none⟩ = some (.int .i64 seq) ∧ w'.cell? ⟨w.heap.size, 3, none⟩ = some (.int .i64 size) ∧ w'.cell? ⟨w.heap.size, 4, none⟩ = some (.int .i64 opn)) ∧ w'.cell? (ad.add (j * 2)) = some (.int .i64 x1)))
          apply wp_meetB (fun w' b5 => Below w1.heap.size w1 w' ∧ w'.cell? ⟨b5, 0, none⟩ = some (.int .i64 pz) ∧ w'.cell? ⟨b5, 1, none⟩ = some (.int .i64 po))
          · go_region_held3 (fun w' => (w'.cell? ⟨w.heap.size, 0, none⟩ = some (.int .i64 conv) ∧ w'.cell? ⟨w.heap.size, 1, none⟩ = some (.int .i64 soft) ∧ w'.cell? ⟨w.heap.size, 2, none⟩ = some (.int .i64 seq) ∧ w'.cell? ⟨w.heap.size, 3, none⟩ = some (.int .i64 size) ∧ w'.cell? ⟨w.heap.size, 4, none⟩ = some (.int .i64 opn)) ∧ w'.cell? (ad.add (j * 2)) = some (.int .i64 x1))
              ((refine SK.out _ ?_; repeat (first | exact B5 | exact BL.out | refine Below.drew ?_ | refine Below.alloc ?_ (by first | exact BL.out.size | exact B5.size | (have := BL.out.size; simp; omega) | (have := B5.size; simp; omega)) _ | refine Below.setCell ?_ (by first | exact BL.out.size | (have := BL.out.size; simp; omega)) _)))
              (((with_reducible refine (HAt.out _).mono ?_); rintro e w5 ⟨rfl, hb5⟩; obtain ⟨hcl, hfz⟩ := bcell hb5; have B5 : Below w1.heap.size w1 w5 := (by
                have hb6 := hb5
                revert hb6
                first
                  | exact fun hb6 => BL.out.drew.trans (hb6.mono BL.out.size)
                  | exact fun hb6 => (BL.out.alloc BL.out.size _).drew.trans (hb6.mono (BL.out.alloc BL.out.size _).size))))
            · have F := at_a B5 pz po
              generalize w5.alloc (.cells #[.int .i64 pz, .int .i64 po] 50) = w6 at F ⊢
              generalize w5.heap.size = b6 at F ⊢
              exact ⟨b6, F, rfl⟩
            · have F := at_b BL.out B5 hb5 pz po
              generalize (w5.setCell ⟨wr.heap.size, 0, none⟩ (.int .i64 pz)).setCell ⟨wr.heap.size, 1, none⟩ (.int .i64 po) = w6 at F ⊢
              generalize wr.heap.size = b6 at F ⊢
              exact ⟨b6, F, rfl⟩
          rintro w6 b6 ⟨hb6, a60, a61⟩
          have B6 := Lib.hid hb6
          clear hb6
          go_wp2_with fail
          refine (HBk.out _ B6.out).mono ?_
          rintro e w7 ⟨rfl, hb7⟩
          have B7 := Lib.hid (B6.out.trans (hb7.mono B6.out.size))
          clear hb7 a60 a61
          obtain ⟨a0, a1⟩ := HX.out _ B7.out
          have hq : (x2 != x2) = false := by simp
          go_wp2
          go_roundw
          case rel => exact ⟨j + 1, by omega, by go_num, B7.out⟩
          case measure => first | (simp [intOf]; done) | (simp [intOf]; omega)
        · obtain rfl : len = j := by omega
          go_wp2
          go_ret
          exact ⟨rfl, H1.out.2.1.trans (BL.out.mono H1.out.2.1.size)⟩
end Go.Proofs.Ytajehmdmgkhkpaa

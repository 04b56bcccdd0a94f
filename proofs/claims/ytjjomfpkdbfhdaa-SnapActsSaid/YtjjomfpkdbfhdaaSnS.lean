/-
  The law Acts of layer 17.
-/
import Derived.Test.YtjjomfpkdbfhdaaSnL
import Derived.Test.YtjjomfpkdbfhdaaSnN
import Derived.Test.YtjjomfpkdbfhdaaSnI
namespace Go.Proofs.Ytjjomfpkdbfhdaa
open Go.RowKit Word Snap
set_option linter.unusedVariables false

/-- the log in memory -/
structure LgSt (w wr : World) (lb : Nat) (A2 : Option Addr) (m c2 g : Nat) (Lo : List Ov) : Prop where
  lg : Box wr lb 29 [.slice A2 m c2, .int .i64 (g : Int)]
  row : wr.ownsRow w.heap.size 31 1 (.slice A2 m c2) m (ovs Lo)
  len : Lo.length = m
  ins : ∀ x ∈ Lo, OvIn w w.heap.size x
section
variable {w wr w' w5 : World} {d b c M lb m c2 g o : Nat} {A2 : Option Addr} {Lo : List Ov} {all : List (List Ol)} {v : Value}
theorem LgSt.on (h : LgSt w wr lb A2 m c2 g Lo) (hb : Below wr.heap.size wr w') : LgSt w w' lb A2 m c2 g Lo := ⟨h.lg.on hb, own_below h.row hb, h.len, h.ins⟩
theorem LgSt.lrd (h : LgSt w wr lb A2 m c2 g Lo) (hb : Below w.heap.size w wr) : LRd wr wr.heap.size A2 Lo := ⟨Rd.own h.row, fun x hx => ((h.ins x hx).below hb).more hb.size⟩
theorem LgSt.away (h : LgSt w wr lb A2 m c2 g Lo) (t : SnIs wr d b c M all o) : ¬ Tri d b c lb := by
  obtain ⟨f, hm, _⟩ := t.raw.ls
  rintro (e | e | e)
  · exact Box.ne h.lg t.raw.bx (by decide) e
  · exact hm.ne_box h.lg e
  · exact t.raw.kp.ne_box h.lg e
theorem LgSt.rowAway (h : LgSt w wr lb A2 m c2 g Lo) (t : SnIs wr d b c M all o) : ∀ k, (Value.slice A2 m c2).ownBlock = some k → ¬ Tri d b c k := by
  intro k hk
  obtain ⟨_, cur, h1⟩ := own_type h.row hk
  obtain ⟨f, hm, _⟩ := t.raw.ls
  rintro (e | e | e) <;> subst e
  · exact Box.ne_row t.raw.bx h.row hk (by decide) rfl
  · obtain ⟨es, ck, h2⟩ := hm.is_map
    rw [h1] at h2
    cases h2
  · obtain ⟨es, ck, h2⟩ := t.raw.kp.is_map
    rw [h1] at h2
    cases h2
theorem LgSt.turned (h : LgSt w wr lb A2 m c2 g Lo) (t : SnIs wr d b c M all o) (hf : Fr (Tri d b c) wr w') : LgSt w w' lb A2 m c2 g Lo :=
  ⟨h.lg.same (hf.same h.lg.lt (h.away t)), own_same h.row fun k hk => hf.same (h.row.lt k hk).2 (h.rowAway t k hk), h.len, h.ins⟩
theorem Own.cell (h : Own w wr d b c M all g) (hl : w.heap.size ≤ lb) (hn : ¬ Tri d b c lb) : Own w (wr.setCell ⟨lb, o, none⟩ v) d b c M all g :=
  ⟨h.sn.beside (Fr.of_setCell wr ⟨lb, o, none⟩ v (T := fun k => k = lb) rfl) (fun e => hn (.inl e.symm)) (fun e => hn (.inr (.inl e.symm))) (fun e => hn (.inr (.inr e.symm))), h.d, h.b, h.c, h.below.setCell (by show w.heap.size ≤ lb; exact hl) v⟩
/-- the log is another -/
theorem LgSt.put {A3 : Option Addr} {m3 c3 g3 : Nat} {Lo3 : List Ov} (h : LgSt w wr lb A2 m c2 g Lo) (hb : Below wr.heap.size wr w5) (ho : w5.ownsRow w.heap.size 31 1 (.slice A3 m3 c3) m3 (ovs Lo3)) (hl : Lo3.length = m3) (hi : ∀ x ∈ Lo3, OvIn w w.heap.size x) :
    LgSt w ((w5.setCell ⟨lb, 0, none⟩ (.slice A3 m3 c3)).setCell ⟨lb, 1, none⟩ (.int .i64 (g3 : Int))) lb A3 m3 c3 g3 Lo3 := by
  have hx := h.lg.on hb
  refine ⟨(hx.set 0 _).set 1 _, own_same ho fun k hk => ?_, hl, hi⟩
  have hne : k ≠ lb := fun e => Box.ne_row hx ho hk (by decide) e.symm
  exact (Below.heap_setCell _ _ _ _ (by exact hne)).trans (Below.heap_setCell _ _ _ _ (by exact hne))
end
set_option maxRecDepth 100000 in
set_option maxHeartbeats 4000000 in
theorem snlaw_acts (A : Option Addr) (n cap : Nat) (L : List Av) (z y : Int) (w : World) (hz : W64 z) (hn : n ≤ maxLen) (hl : L.length = n) (hr : Rd w w.heap.size A (avs L)) (hin : ∀ x ∈ L, AvIn w w.heap.size x) :
    Calls Try.prog 3 #[.slice A n cap, .int .i64 z, .int .i64 y] w fun e w' => e = .returned (.bool true) ∧ Below w.heap.size w w' := by
  have HZ := Lib.hid hz
  clear hz
  have HOne : Hid (∀ u ∈ [Value.slice none 0 0, Value.int .i64 0], u.oneCell' = true) := Lib.hid (by
    intro u hu
    simp at hu
    rcases hu with rfl | rfl <;> rfl)
  have QW := Lib.hid fun w' => awake17_any w'
  have HN := Lib.hid (And.intro hl (And.intro hr hin))
  have HNm := Lib.hid hn
  clear hl hr hin hn
  go_enter Try.func3, Try.ntmps3
  go_wp2_with fail
  refine (QW.out _).mono ?_
  rintro e w1 ⟨rfl, hb1⟩
  have H1 := Lib.hid hb1
  clear hb1
  go_wp2_with fail
  refine (few_any A n cap L w1 HN.out.1 HNm.out ((HN.out.2.1.below H1.out).more H1.out.size) (fun x hx => ((HN.out.2.2 x hx).below H1.out).more H1.out.size)).mono ?_
  rintro e w2 ⟨⟨bv, rfl, hbv⟩, rfl⟩
  have HF := Lib.hid hbv
  clear hbv
  cases bv
  · clear HF
    go_wp2_with fail
    refine (QW.out _).mono ?_
    rintro e w9 ⟨rfl, hb9⟩
    have H9 := Lib.hid (bthen H1.out hb9)
    clear hb9
    go_wp2
    go_ret
    exact ⟨rfl, H9.out⟩
  · have HY := Lib.hid (HF.out rfl)
    have hn2 : n ≤ 200 := by have := fewy_len HY.out; rw [HN.out.1] at this; exact this
    clear HF
    go_wp2_with fail
    refine (snew_any _).mono ?_
    rintro e w3 ⟨d, b, c, rfl, hs, q1, q2, q3, hb⟩
    have H2 : Hid (Own w w3 d b c 0 [] 0) := Lib.hid ⟨hs, Nat.le_trans H1.out.size q1, Nat.le_trans H1.out.size q2, Nat.le_trans H1.out.size q3, bthen H1.out hb⟩
    clear hs q1 q2 q3 hb
    go_wp2_with (first
      | ((with_reducible refine wpList_alloc_box _ (o := ⟨some 8, .alloc _, _, _, _, _⟩) rfl _ rfl [.slice none 0 0, .int .i64 0] zero_log ?_); intro w4 x4 hB4 hs4; clear hs4)
      | ((with_reducible refine wpList_store_var _ (o := ⟨none, .store _ _ _, _, _, _, _⟩) rfl 29 _ _ rfl w3.heap.size [.slice none 0 0, .int .i64 0] [.slice none 0 0, .int .i64 0] (by kernel_rfl) rfl HOne.out rfl rfl x4 ?_); go_loud (intro w5 x5 hg5; have K5 := below_stored hB4 hg5 hB4.size (Nat.le_refl _); have H3 : Hid (Own w w5 d b c 0 [] 0 ∧ LgSt w w5 w3.heap.size none 0 0 0 []) := Lib.hid ⟨H2.out.on K5, x5, World.ownsRow_nil _ _ _ _, rfl, by simp⟩; have hlb : w.heap.size ≤ w3.heap.size := H2.out.below.size; clear x4 hB4 x5 hg5 K5; generalize w3.heap.size = lb at *))
      | fail)
    go_loopw [9] (fun i wr => ∃ (k m : Nat) (A2 : Option Addr) (c2 g : Nat) (Lo : List Ov) (all : List (List Ol)), k ≤ n ∧ i = .int .i64 k ∧ actsK L k = (all, g) ∧ Own w wr d b c (k * 200) all g ∧ LgSt w wr lb A2 m c2 g Lo ∧ Ov.all Lo = all) (fun i _ => n - (intOf i).toNat)
    case atStart => exact ⟨0, 0, none, 0, 0, [], [], Nat.zero_le _, rfl, rfl, by rw [Nat.zero_mul]; exact H3.out.1, H3.out.2, rfl⟩
    case round =>
      obtain ⟨k, m, A2, c2, g, Lo, all, hk, rfl, hact, hst, hlg, hall⟩ := hrel
      have HS := Lib.hid (And.intro hst (And.intro hlg hall))
      have HAct := Lib.hid hact
      have hal : all.length ≤ k := by have := actsK_len L k; rw [hact] at this; exact this
      have hmk : m ≤ k := by rw [← hlg.len, ← all_len, hall]; exact hal
      have HML : Hid (m = all.length) := Lib.hid (by rw [← hall, all_len, hlg.len])
      clear hst hlg hall hact H3
      by_cases hlt : k < n
      · have hki : (k : Int) < (n : Int) := by omega
        have hkl : k < L.length := by rw [HN.out.1]; exact hlt
        have hx : L[k]? = some (L[k]'hkl) := List.getElem?_eq_getElem hkl
        obtain ⟨ad, rfl, hadb, c0, c1, c2'⟩ := av_at (HN.out.2.1.below HS.out.1.below) hx
        have hxm := List.getElem_mem hkl
        have HX0 := Lib.hid ((HN.out.2.2 _ hxm).ovin (fewy_each HY.out _ hxm))
        have HXk := Lib.hid (HN.out.2.2 _ hxm).kind
        have HX := Lib.hid (((HN.out.2.2 _ hxm).below HS.out.1.below).more HS.out.1.below.size)
        have HXf := Lib.hid (fewy_each HY.out _ hxm)
        have HStep := Lib.hid (actsK_step hx)
        generalize L[k]'hkl = x at *
        have HC := Lib.hid (ldo_any d b c (k * 200) all g x wr HS.out.1.sn HX.out HXf.out (by omega) (by omega))
        obtain ⟨xk, ⟨xo, xA, xc⟩, xn⟩ := x
        replace c1 : wr.cell? ⟨(ad.add (k * 3)).block, (ad.add (k * 3)).off + 1, none⟩ = some (.slice xA xo.length xc) := c1
        replace HX0 : Hid (OvIn w w.heap.size ⟨xo, xA, xc⟩) := HX0
        replace HXk : Hid (xk ≤ 255) := HXk
        replace HC : Hid (Calls Try.prog 11 #[snp d, .agg #[.int .u8 xk, .slice xA xo.length xc, .int .i64 xn]] wr fun e w' => e = .returned (.tuple #[]) ∧ SnIs w' d b c (k * 200 + 200) (actS (all, g) ⟨xk, ⟨xo, xA, xc⟩, xn⟩).1 (actS (all, g) ⟨xk, ⟨xo, xA, xc⟩, xn⟩).2 ∧ Fr (Tri d b c) wr w') := HC
        clear hx hkl hxm
        go_wp2_with fail
        refine HC.out.mono ?_
        rintro e w4 ⟨rfl, hs, hf⟩
        have H4 := Lib.hid (And.intro (HS.out.1.turn hs hf) (HS.out.2.1.turned HS.out.1.sn hf))
        have HB0 : Hid (Below w4.heap.size w4 w4.drew) := Lib.hid (Below.refl _ _).drew
        obtain ⟨c0, c1, c2'⟩ : w4.cell? (ad.add (k * 3)) = some (.int .u8 xk) ∧ w4.cell? ⟨(ad.add (k * 3)).block, (ad.add (k * 3)).off + 1, none⟩ = some (.slice xA xo.length xc) ∧ w4.cell? ⟨(ad.add (k * 3)).block, (ad.add (k * 3)).off + 2, none⟩ = some (.int .i64 xn) := by
          have hb := HS.out.1.away
          refine ⟨(hf.cell (by rw [addr_add_block]; have := HS.out.1.below.size; omega) (by rw [addr_add_block]; exact hb _ hadb)).trans c0, (hf.cell (by show (ad.add (k * 3)).block < _; rw [addr_add_block]; have := HS.out.1.below.size; omega) (by show ¬ Tri d b c (ad.add (k * 3)).block; rw [addr_add_block]; exact hb _ hadb)).trans c1, (hf.cell (by show (ad.add (k * 3)).block < _; rw [addr_add_block]; have := HS.out.1.below.size; omega) (by show ¬ Tri d b c (ad.add (k * 3)).block; rw [addr_add_block]; exact hb _ hadb)).trans c2'⟩
        have l0 : w4.cell? ⟨lb, 0, none⟩ = some (.slice A2 m c2) := H4.out.2.lg.cell 0
        have l1 : w4.cell? ⟨lb, 1, none⟩ = some (.int .i64 (g : Int)) := H4.out.2.lg.cell 1
        clear hs hf HC HX HXf
        by_cases he : xk % 2 = 0
        · have HD : Hid (∀ w', Below w4.heap.size w4 w' → Calls Try.prog 12 #[.agg #[.slice A2 m c2, .int .i64 (g : Int)], .agg #[.int .u8 xk, .slice xA xo.length xc, .int .i64 xn]] w' fun e w'' => ∃ g9 c9, e = .returned (logv (some ⟨g9, 0, none⟩) (m + 1) c9 g) ∧ w''.ownsRow w'.heap.size 31 1 (.slice (some ⟨g9, 0, none⟩) (m + 1) c9) (m + 1) (ovs (Lo ++ [⟨xo, xA, xc⟩])) ∧ Below w'.heap.size w' w'') := Lib.hid fun w' hb =>
            rdo_even A2 m c2 Lo g ⟨xk, ⟨xo, xA, xc⟩, xn⟩ w' H4.out.2.len (by omega) (Rd.own (H4.out.2.on hb).row) HXk.out he
          have HE : Hid (actS (all, g) ⟨xk, ⟨xo, xA, xc⟩, xn⟩ = (all ++ [xo], g)) := Lib.hid (actS_even he)
          clear he
          generalize hxl : xo.length = xl at *
          go_wp2_with fail
          go_still_tail 5, (by kernel_rfl)
          change wpList _ _ _ _ _ w4.drew
          go_wp2_with fail
          refine (HD.out _ HB0.out).mono ?_
          rintro e w5 ⟨g9, c9, rfl, hown, hb5⟩
          have B5 : Below w4.heap.size w4 w5 := HB0.out.trans (hb5.mono HB0.out.size)
          have r0 : w5.cell? ⟨lb, 0, none⟩ = some (.slice A2 m c2) := (H4.out.2.on B5).lg.cell 0
          have r1 : w5.cell? ⟨lb, 1, none⟩ = some (.int .i64 (g : Int)) := (H4.out.2.on B5).lg.cell 1
          have r2 : w5.frozen? ⟨lb, 0, none⟩ = false := (H4.out.2.on B5).lg.frozen 0
          have r3 : w5.frozen? ⟨lb, 1, none⟩ = false := (H4.out.2.on B5).lg.frozen 1
          clear c0 c1 c2' l0 l1
          have H6 : Hid (Own w ((w5.setCell ⟨lb, 0, none⟩ (.slice (some ⟨g9, 0, none⟩) (m + 1) c9)).setCell ⟨lb, 1, none⟩ (.int .i64 (g : Int))) d b c ((k + 1) * 200) (all ++ [xo]) g ∧ LgSt w ((w5.setCell ⟨lb, 0, none⟩ (.slice (some ⟨g9, 0, none⟩) (m + 1) c9)).setCell ⟨lb, 1, none⟩ (.int .i64 (g : Int))) lb (some ⟨g9, 0, none⟩) (m + 1) c9 g (Lo ++ [⟨xo, xA, xc⟩]) ∧ Ov.all (Lo ++ [⟨xo, xA, xc⟩]) = (all ++ [xo])) := Lib.hid (by
            have h1 := (H4.out.1.on B5)
            rw [HE.out] at h1
            have h2 := H4.out.2.away H4.out.1.sn
            have h3 : k * 200 + 200 = (k + 1) * 200 := by omega
            rw [h3] at h1
            refine ⟨(h1.cell hlb h2).cell hlb h2, H4.out.2.put B5 (own_base0 hown (bthen H4.out.1.below HB0.out).size) (by rw [List.length_append, H4.out.2.len]; rfl) (fun x hx => by
              rcases List.mem_append.1 hx with hx | hx
              · exact H4.out.2.ins x hx
              · obtain rfl := List.mem_singleton.1 hx
                exact HX0.out), ?_⟩
            rw [Ov.all, List.map_append, ← HS.out.2.2]; rfl)
          have HA6 : Hid (actsK L (k + 1) = (all ++ [xo], g)) := Lib.hid (by rw [HStep.out, HAct.out]; exact HE.out)
          clear B5 hb5 hown HD
          go_wp2
          clear r0 r1 r2 r3
          generalize World.setCell (World.setCell w5 _ _) _ _ = w6 at H6 ⊢
          go_roundw
          case rel => exact ⟨k + 1, _, _, _, _, _, _, by omega, by go_num, HA6.out, H6.out.1, H6.out.2.1, H6.out.2.2⟩
          case measure => first | (simp [intOf]; done) | (simp [intOf]; omega)
        · have HD : Hid (∀ w', Below w4.heap.size w4 w' → Calls Try.prog 12 #[.agg #[.slice A2 m c2, .int .i64 (g : Int)], .agg #[.int .u8 xk, .slice xA xo.length xc, .int .i64 xn]] w' fun e w'' => e = .returned (logv A2 m c2 ((max g (min xn (m : Int)).toNat : Nat) : Int)) ∧ Below w'.heap.size w' w'') := Lib.hid fun w' hb =>
            rdo_odd A2 m c2 g ⟨xk, ⟨xo, xA, xc⟩, xn⟩ w' (by omega) HXk.out he
          have HE : Hid (actS (all, g) ⟨xk, ⟨xo, xA, xc⟩, xn⟩ = (all, max g (min xn (m : Int)).toNat)) := Lib.hid (by rw [HML.out]; exact actS_odd he)
          clear he
          generalize hxl : xo.length = xl at *
          go_wp2_with fail
          go_still_tail 5, (by kernel_rfl)
          change wpList _ _ _ _ _ w4.drew
          go_wp2_with fail
          refine (HD.out _ HB0.out).mono ?_
          rintro e w5 ⟨rfl, hb5⟩
          have B5 : Below w4.heap.size w4 w5 := HB0.out.trans (hb5.mono HB0.out.size)
          have r0 : w5.cell? ⟨lb, 0, none⟩ = some (.slice A2 m c2) := (H4.out.2.on B5).lg.cell 0
          have r1 : w5.cell? ⟨lb, 1, none⟩ = some (.int .i64 (g : Int)) := (H4.out.2.on B5).lg.cell 1
          have r2 : w5.frozen? ⟨lb, 0, none⟩ = false := (H4.out.2.on B5).lg.frozen 0
          have r3 : w5.frozen? ⟨lb, 1, none⟩ = false := (H4.out.2.on B5).lg.frozen 1
          clear c0 c1 c2' l0 l1
          have H6 : Hid (Own w ((w5.setCell ⟨lb, 0, none⟩ (.slice A2 m c2)).setCell ⟨lb, 1, none⟩ (.int .i64 ((max g (min xn (m : Int)).toNat : Nat) : Int))) d b c ((k + 1) * 200) all (max g (min xn (m : Int)).toNat) ∧ LgSt w ((w5.setCell ⟨lb, 0, none⟩ (.slice A2 m c2)).setCell ⟨lb, 1, none⟩ (.int .i64 ((max g (min xn (m : Int)).toNat : Nat) : Int))) lb A2 m c2 (max g (min xn (m : Int)).toNat) Lo ∧ Ov.all Lo = all) := Lib.hid (by
            have h1 := (H4.out.1.on B5)
            rw [HE.out] at h1
            have h2 := H4.out.2.away H4.out.1.sn
            have h3 : k * 200 + 200 = (k + 1) * 200 := by omega
            rw [h3] at h1
            refine ⟨(h1.cell hlb h2).cell hlb h2, H4.out.2.put B5 ((H4.out.2.on B5).row) (H4.out.2.len) (H4.out.2.ins), ?_⟩
            exact HS.out.2.2)
          have HA6 : Hid (actsK L (k + 1) = (all, max g (min xn (m : Int)).toNat)) := Lib.hid (by rw [HStep.out, HAct.out]; exact HE.out)
          clear B5 hb5  HD
          go_wp2
          clear r0 r1 r2 r3
          generalize World.setCell (World.setCell w5 _ _) _ _ = w6 at H6 ⊢
          go_roundw
          case rel => exact ⟨k + 1, _, _, _, _, _, _, by omega, by go_num, HA6.out, H6.out.1, H6.out.2.1, H6.out.2.2⟩
          case measure => first | (simp [intOf]; done) | (simp [intOf]; omega)
      · obtain rfl : n = k := by omega
        have HQ : Hid (OIn ((rdF all z (from_ g y)).getD ol0)) := Lib.hid (rdF_in HS.out.1.sn (by unfold from_; omega))
        have HC1 := Lib.hid fun (w' : World) (t : SnIs w' d b c (n * 200) all g) => read_any d b c (n * 200) all g z y w' t HZ.out (by omega)
        have HC2 := Lib.hid fun (w' : World) (t : Own w w' d b c (n * 200) all g ∧ LgSt w w' lb A2 m c2 g Lo) => rread_any A2 m c2 Lo g z y w' t.2.len (by omega) (t.2.lrd t.1.below)
        have HNow : Hid (∀ w', (Own w w' d b c (n * 200) all g ∧ LgSt w w' lb A2 m c2 g Lo) → Calls Try.prog 15 #[snp d] w' fun e w'' => e = .returned (.int .i64 (m : Int)) ∧ w' = w'') := Lib.hid fun w' t => by rw [HML.out]; exact snow_any w' t.1.sn.raw
        have HLst : Hid (∀ w', (Own w w' d b c (n * 200) all g ∧ LgSt w w' lb A2 m c2 g Lo) → Calls Try.prog 16 #[snp d, .int .i64 z] w' fun e w'' => e = .returned (.int .i64 (lastN all z m : Int)) ∧ w' = w'') := Lib.hid fun w' t => by rw [HML.out]; exact slast_any w' z HZ.out t.1.sn.raw
        have HSiz : Hid (∀ w', (Own w w' d b c (n * 200) all g ∧ LgSt w w' lb A2 m c2 g Lo) → Calls Try.prog 18 #[snp d] w' fun e w'' => e = .returned (.int .i64 ((kept all g).length : Int)) ∧ w' = w'') := Lib.hid fun w' t => ssize_any w' t.1.sn.raw
        have HLrf : Hid (∀ w', (Own w w' d b c (n * 200) all g ∧ LgSt w w' lb A2 m c2 g Lo) → Calls Try.prog 17 #[logv A2 m c2 g, .int .i64 z] w' fun e w'' => e = .returned (.int .i64 (lastN all z m : Int)) ∧ Below w'.heap.size w' w'') := Lib.hid fun w' t => by rw [← HS.out.2.2]; exact rlast_any A2 m c2 Lo g z w' t.2.len (by omega) (t.2.lrd t.1.below)
        have HSrf : Hid (∀ w', (Own w w' d b c (n * 200) all g ∧ LgSt w w' lb A2 m c2 g Lo) → Calls Try.prog 19 #[logv A2 m c2 g] w' fun e w'' => e = .returned (.int .i64 ((kept all g).length : Int)) ∧ Below w'.heap.size w' w'') := Lib.hid fun w' t => by rw [← HS.out.2.2]; exact rsize_any A2 m c2 Lo g w' t.2.len (by omega) (by have := t.1.sn.le; rw [← HML.out] at this; exact this) (t.2.lrd t.1.below)
        rw [HS.out.2.2] at HC2
        unfold rdv at HC1 HC2
        generalize (rdF all z (from_ g y)).isSome = s at *
        generalize (rdF all z (from_ g y)).getD ol0 = q at *
        generalize lastN all z m = la at *
        generalize (kept all g).length = kl at *
        have heq : ∀ W, (binOp .eql 38 (.agg (ocs q).toArray) (.agg (ocs q).toArray)).run Try.prog W = .ok (.bool true) W := fun W => by rw [eql_old W q q HQ.out HQ.out, (olEq_iff q q).2 rfl]
        obtain ⟨m3, hm3, hsz⟩ := big_size (P := Try.prog) (t := 38) (s := 34) (by kernel_rfl)
        have hm30 : ¬ m3 = 0 := by omega
        have HM3 := Lib.hid hm3
        clear hm3
        go_wp2_with fail
        refine (HC1.out _ HS.out.1.sn).mono ?_
        rintro e w5 ⟨rfl, hb⟩
        have H5 := Lib.hid (And.intro (HS.out.1.on hb) (HS.out.2.1.on hb))
        clear hb
        go_wp2_with (first
          | ((with_reducible refine wpList_ol_alloc (o := ⟨some 10, .alloc _, _, _, _, _⟩) rfl rfl ?_); intro w7 x7 hB7 hs7; clear hs7)
          | ((with_reducible refine wpList_ol_store (o := ⟨none, .store _ (.tmp 10) _, _, _, _, _⟩) rfl _ _ rfl w5.heap.size q ol0 HQ.out ol0_in rfl rfl x7 ?_); go_loud (intro w8 x8 hg8 _; have K8 := below_stored hB7 hg8 hB7.size (Nat.le_refl _); have H8 := Lib.hid (And.intro (And.intro (H5.out.1.on K8) (H5.out.2.on K8)) x8); have l0 : w8.cell? ⟨lb, 0, none⟩ = some (.slice A2 m c2) := (H5.out.2.on K8).lg.cell 0; have l1 : w8.cell? ⟨lb, 1, none⟩ = some (.int .i64 (g : Int)) := (H5.out.2.on K8).lg.cell 1; clear x7 hB7 hg8 x8 K8; generalize w5.heap.size = ba at *))
          | fail)
        refine (HC2.out _ H8.out.1).mono ?_
        rintro e w9 ⟨rfl, hb⟩
        have H9 := Lib.hid (And.intro (And.intro (H8.out.1.1.on hb) (H8.out.1.2.on hb)) (H8.out.2.on hb))
        clear hb l0 l1
        go_wp2_with (first
          | ((with_reducible refine wpList_ol_alloc (o := ⟨some 12, .alloc _, _, _, _, _⟩) rfl rfl ?_); intro w7 x7 hB7 hs7; clear hs7)
          | ((with_reducible refine wpList_ol_store (o := ⟨none, .store _ (.tmp 12) _, _, _, _, _⟩) rfl _ _ rfl w9.heap.size q ol0 HQ.out ol0_in rfl rfl x7 ?_); go_loud (intro w10 x8 hg8 _; have K8 := below_stored hB7 hg8 hB7.size (Nat.le_refl _); have H10 : Hid (Own w w10 d b c (n * 200) all g ∧ LgSt w w10 lb A2 m c2 g Lo ∧ Box w10 ba 38 (ocs q) ∧ Box w10 w9.heap.size 38 (ocs q)) := Lib.hid ⟨H9.out.1.1.on K8, H9.out.1.2.on K8, H9.out.2.on K8, x8⟩; clear x7 hB7 hg8 x8 K8; generalize w9.heap.size = bb at *))
          | fail)
        have HOn : Hid (∀ w' w'', (Own w w' d b c (n * 200) all g ∧ LgSt w w' lb A2 m c2 g Lo ∧ Box w' ba 38 (ocs q) ∧ Box w' bb 38 (ocs q)) → Below w'.heap.size w' w'' → (Own w w'' d b c (n * 200) all g ∧ LgSt w w'' lb A2 m c2 g Lo ∧ Box w'' ba 38 (ocs q) ∧ Box w'' bb 38 (ocs q))) := Lib.hid fun w' w'' h hb => ⟨h.1.on hb, h.2.1.on hb, h.2.2.1.on hb, h.2.2.2.on hb⟩
        refine wp_region_class (fun w' => Own w w' d b c (n * 200) all g ∧ LgSt w w' lb A2 m c2 g Lo ∧ Box w' ba 38 (ocs q) ∧ Box w' bb 38 (ocs q)) (by kernel_rfl) (by kernel_rfl) (HOn.out _ _ H10.out (Below.refl _ _).drew) ?_
        intro X hX f hf hg
        have l0 : ∀ x, (f x).cell? ⟨lb, 0, none⟩ = some (.slice A2 m c2) := fun x => (hf x).2.1.lg.cell 0
        have l1 : ∀ x, (f x).cell? ⟨lb, 1, none⟩ = some (.int .i64 (g : Int)) := fun x => (hf x).2.1.lg.cell 1
        have hla : ∀ x, (loadCellsFrom ⟨ba, 0, none⟩ 0 m3 #[]).run Try.prog (f x) = .ok (ocs q).toArray (f x) := fun x => (hf x).2.2.1.olAll HQ.out HM3.out
        have hlc : ∀ x, (loadCellsFrom ⟨bb, 0, none⟩ 0 m3 #[]).run Try.prog (f x) = .ok (ocs q).toArray (f x) := fun x => (hf x).2.2.2.olAll HQ.out HM3.out
        have Hf := Lib.hid hf
        have Hg := Lib.hid hg
        have HPr : Hid (∀ x, Own w (f x) d b c (n * 200) all g ∧ LgSt w (f x) lb A2 m c2 g Lo) := Lib.hid fun x => ⟨(hf x).1, (hf x).2.1⟩
        clear hf hg
        repeat (go_big_quiet_step (first
          | (go_at_call 15; with_reducible (exact calls_class (HNow.out _ (HPr.out _)) (fun _ hb => Hg.out _ (hb ▸ Hf.out _))))
          | (go_at_call 16; with_reducible (exact calls_class (HLst.out _ (HPr.out _)) (fun _ hb => Hg.out _ (hb ▸ Hf.out _))))
          | (go_at_call 18; with_reducible (exact calls_class (HSiz.out _ (HPr.out _)) (fun _ hb => Hg.out _ (hb ▸ Hf.out _))))
          | (go_at_call 17; with_reducible (exact calls_class (HLrf.out _ (HPr.out _)) (fun _ hb => Hg.out _ (HOn.out _ _ (Hf.out _) hb))))
          | (go_at_call 19; with_reducible (exact calls_class (HSrf.out _ (HPr.out _)) (fun _ hb => Hg.out _ (HOn.out _ _ (Hf.out _) hb))))))
        refine wpQuiet_nil ?_
        rintro _ ⟨x, rfl⟩
        have HT := Lib.hid (Hf.out x).1.below
        clear l0 l1 hla hlc Hf Hg HPr
        generalize f x = w12 at HT ⊢
        clear x f hX
        go_wp2
        go_ret
        exact ⟨ret_bool (by simp), HT.out⟩
end Go.Proofs.Ytjjomfpkdbfhdaa

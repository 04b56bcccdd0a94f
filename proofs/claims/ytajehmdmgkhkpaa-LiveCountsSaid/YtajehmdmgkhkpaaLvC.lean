/-
  Package live: Add, Drop.
-/
import Derived.Test.YtajehmdmgkhkpaaLvB
import Derived.Test.YtajehmdmgkhkpaaGeomO
import Derived.Test.YtajehmdmgkhkpaaStepA
import Derived.StillTailTactics
namespace Go.Proofs.Ytajehmdmgkhkpaa
open Go.RowKit Geom Lv
set_option linter.unusedVariables false

abbrev TwB (b c : Nat) : Nat → Prop := fun k => k = b ∨ k = c
theorem w64_of {x : Int} (h0 : -9223372036854775808 ≤ x) (h1 : x < 9223372036854775808) : W64 x := by
  simp [W64, Lit.wf, IntKind.min, IntKind.max, IntKind.signed, IntKind.bits]
  omega
theorem seat_w64 {conv seq size z o : Int} (H : Some conv seq size) (h : Seat conv seq size z o) : W64 z ∧ W64 o := by
  obtain ⟨h1, h2, h3, h4⟩ := h
  obtain ⟨q1, q2, q3, q4, q5⟩ := H
  exact ⟨w64_of (by omega) (by omega), w64_of (by omega) (by omega)⟩
theorem doM_out {seq size : Int} {l : List (Int × Int)} {n v : Int} {dr : Bool} (h : ¬ (1 ≤ n ∧ n ≤ seq * size)) : doM seq size l n v dr = (l, false) := by
  unfold doM
  rw [if_neg (fun h2 => h (isB_iff.1 h2.1))]
theorem doM_not {seq size : Int} {l : List (Int × Int)} {n v : Int} {dr : Bool} (h : dr ≠ (lk l n).isSome) : doM seq size l n v dr = (l, false) := by
  unfold doM
  rw [if_neg (fun h2 => h h2.2)]
theorem doM_add {seq size : Int} {l : List (Int × Int)} {n v : Int} (h : 1 ≤ n ∧ n ≤ seq * size) (hl : lk l n = none) : doM seq size l n v false = (l ++ [(n, v)], true) := by
  unfold doM
  rw [if_pos ⟨isB_iff.2 h, by rw [hl]; rfl⟩]
  rfl
theorem doM_drop {seq size : Int} {l : List (Int × Int)} {n v : Int} (h : 1 ≤ n ∧ n ≤ seq * size) (hl : (lk l n).isSome = true) : doM seq size l n v true = (er l n, true) := by
  unfold doM
  rw [if_pos ⟨isB_iff.2 h, hl.symm⟩]
  rfl
section
variable {w w1 w2 w3 : World} {d b c m : Nat} {conv soft seq size opn : Int} {l : List (Int × Int)} {n v : Int}
theorem bmp_add (H : Some conv seq size) (hin : 1 ≤ n ∧ n ≤ seq * size) (hl : lk l n = none) : bmp conv seq size (l ++ [(n, v)]) = updM (bmp conv seq size l) (plN conv seq size n) (some (.int .i64 v)) := by
  obtain ⟨q1, q2, q3, q4, q5⟩ := H
  funext a
  unfold bmp updM
  rw [pv_add (by omega) hin hl]
  split <;> rfl
theorem bmp_er (H : Some conv seq size) (hw : Wl seq size l) (hin : 1 ≤ n ∧ n ≤ seq * size) : bmp conv seq size (er l n) = updM (bmp conv seq size l) (plN conv seq size n) none := by
  obtain ⟨q1, q2, q3, q4, q5⟩ := H
  funext a
  unfold bmp updM
  rw [pv_er (by omega) hw hin]
  split <;> rfl
theorem LvIs.added (t : LvIs w1 d b c m conv soft seq size opn l) (hin : 1 ≤ n ∧ n ≤ seq * size) (hl : lk l n = none)
    (h1 : MapIs w2 b (m + 1) (updM (bmp conv seq size l) (plN conv seq size n) (some (.int .i64 v)))) (f1 : Fr (fun k => k = b) w1 w2)
    {g : Int → Option Value} (hg : ∀ z, (g z).getD (.int .i64 0) = .int .i64 (cn conv seq size l z : Int))
    (h2 : MapIi w3 c (m + 1) (updI g (zoneOf conv seq size n) (some (.int .i64 ((cn conv seq size l (zoneOf conv seq size n) : Int) + 1))))) (f2 : Fr (fun k => k = c) w2 w3) :
    LvIs w3 d b c (m + 1) conv soft seq size opn (l ++ [(n, v)]) ∧ Fr (TwB b c) w1 w3 := by
  obtain ⟨n1, n2, n3⟩ := t.apart
  have hs := f1.size
  refine ⟨⟨t.bx.same ((f2.same (Nat.lt_of_lt_of_le t.bx.lt hs) n2).trans (f1.same t.bx.lt n1)), ?_, ⟨_, h2, fun z => ?_⟩, n3, t.wl.add (x := (n, v)) hin hl, t.ok, by have := t.hl; simp; omega⟩, (f1.mono fun k _ h => .inl h).trans (f2.mono fun k _ h => .inr h)⟩
  · rw [bmp_add t.ok hin hl]
    exact h1.same (f2.same h1.lt n3)
  · unfold updI
    rw [cn_add]
    by_cases hz : z = zoneOf conv seq size n
    · subst hz
      rw [if_pos rfl, if_pos rfl]
      simp
    · rw [if_neg hz, if_neg (fun e => hz e.symm), hg, Nat.add_zero]
theorem LvIs.dropped (t : LvIs w1 d b c m conv soft seq size opn l) (hin : 1 ≤ n ∧ n ≤ seq * size) (hl : (lk l n).isSome = true)
    (h1 : MapIs w2 b m (updM (bmp conv seq size l) (plN conv seq size n) none)) (f1 : Fr (fun k => k = b) w1 w2)
    {g : Int → Option Value} (hg : ∀ z, (g z).getD (.int .i64 0) = .int .i64 (cn conv seq size l z : Int))
    (h2 : MapIi w3 c (m + 1) (updI g (zoneOf conv seq size n) (some (.int .i64 ((cn conv seq size l (zoneOf conv seq size n) : Int) - 1))))) (f2 : Fr (fun k => k = c) w2 w3) :
    LvIs w3 d b c (m + 1) conv soft seq size opn (er l n) ∧ Fr (TwB b c) w1 w3 := by
  obtain ⟨n1, n2, n3⟩ := t.apart
  have hs := f1.size
  refine ⟨⟨t.bx.same ((f2.same (Nat.lt_of_lt_of_le t.bx.lt hs) n2).trans (f1.same t.bx.lt n1)), ?_, ⟨_, h2, fun z => ?_⟩, n3, t.wl.er n, t.ok, by have := t.hl; have := er_length hl; omega⟩, (f1.mono fun k _ h => .inl h).trans (f2.mono fun k _ h => .inr h)⟩
  · rw [bmp_er t.ok t.wl hin]
    exact (h1.same (f2.same h1.lt n3)).mono (Nat.le_succ _)
  · unfold updI
    have hc := cn_er (conv := conv) (seq := seq) (size := size) hl z
    by_cases hz : z = zoneOf conv seq size n
    · subst hz
      rw [if_pos rfl] at hc ⊢
      rw [hc]
      simp
    · rw [if_neg (fun e => hz e.symm), Nat.add_zero] at hc
      rw [if_neg hz, hg, hc]
end
theorem MapIs.ne_cell {w : World} {b m x k : Nat} {f : Int × Int → Option Value} {u : Value} (h : MapIs w b m f) (hx : w.cell? ⟨x, k, none⟩ = some u) : x ≠ b := by
  rintro rfl
  obtain ⟨es, clock, h2⟩ := h.is_map
  simp [World.cell?, h2] at hx
set_option maxRecDepth 100000 in
set_option maxHeartbeats 2000000 in
theorem lvadd_any {d b c m : Nat} {conv soft seq size opn : Int} {l : List (Int × Int)} (w : World) (n v : Int) (t : LvIs w d b c m conv soft seq size opn l) (hm : m ≤ 100000) :
    Calls Try.prog 14 #[lvp d, .int .i64 n, .int .i64 v] w fun e w' => e = .returned (.bool (doM seq size l n v false).2) ∧ LvIs w' d b c (m + 1) conv soft seq size opn (doM seq size l n v false).1 ∧ Fr (TwB b c) w w' := by
  have HA := Lib.hid fun w => at_any conv soft seq size opn n w t.ok
  obtain ⟨c0, c1, c2, c3, c4⟩ := t.geo
  by_cases hin : 1 ≤ n ∧ n ≤ seq * size
  · have hib : isB seq size n = true := isB_iff.2 hin
    rw [hib] at HA
    have hq := t.ok
    obtain ⟨q1, q2, q3, q4, q5⟩ := hq
    have hst : Seat conv seq size (zoneOf conv seq size n) (offOf seq size n) := plN_seat (by omega) hin
    have h64 := seat_w64 t.ok hst
    have hpv : pv conv seq size l (zoneOf conv seq size n, offOf seq size n) = lk l n := pv_num (by omega) hin
    have T := Lib.hid t
    have HH := Lib.hid fun w' (t' : LvIs w' d b c m conv soft seq size opn l) => lvhas_any w' (zoneOf conv seq size n, offOf seq size n) h64.1 h64.2 t'
    cases hl : lk l n with
    | some u =>
      rw [hpv, hl] at HH
      rw [doM_not (v := v) (dr := false) (by rw [hl]; simp)]
      clear t hpv hib q1 q2 q3 q4 q5 hst h64
      generalize zoneOf conv seq size n = z at *
      generalize offOf seq size n = o at *
      go_enter Try.func14, Try.ntmps14
      go_wp2_with fail
      refine (HA.out _).mono ?_
      rintro e w1 ⟨rfl, hb1⟩
      have hb2 : Below w.heap.size w (w1.alloc (.cells #[.int .i64 z, .int .i64 o] 50)) := below_alloc1 hb1
      clear c0 c1 c2 c3 c4 hb1
      go_wp2_with fail
      refine (HH.out _ (T.out.on hb2)).mono ?_
      rintro e w2 ⟨rfl, hb3⟩
      go_wp2
      go_ret
      exact ⟨rfl, (T.out.on (bthen hb2 hb3)).mono (Nat.le_succ _), Fr.of_below (bthen hb2 hb3)⟩
    | none =>
      rw [hpv, hl] at HH
      rw [doM_add (v := v) hin hl]
      have hcnl : cn conv seq size l (zoneOf conv seq size n) ≤ m := Nat.le_trans (cn_le _) t.hl
      have HC := Lib.hid (And.intro h64.1 (And.intro h64.2 hcnl))
      have HF := Lib.hid (fun (w1 w2 w3 : World) (t1 : LvIs w1 d b c m conv soft seq size opn l) (h1 : MapIs w2 b (m + 1) (updM (bmp conv seq size l) (plN conv seq size n) (some (.int .i64 v)))) (f1 : Fr (fun k => k = b) w1 w2)
        (g : Int → Option Value) (hg : ∀ z, (g z).getD (.int .i64 0) = .int .i64 (cn conv seq size l z : Int))
        (h2 : MapIi w3 c (m + 1) (updI g (zoneOf conv seq size n) (some (.int .i64 ((cn conv seq size l (zoneOf conv seq size n) : Int) + 1))))) (f2 : Fr (fun k => k = c) w2 w3) => t1.added hin hl h1 f1 hg h2 f2)
      rw [show plN conv seq size n = (zoneOf conv seq size n, offOf seq size n) from rfl] at HF
      clear t hpv hib q1 q2 q3 q4 q5 hst h64 hcnl
      generalize zoneOf conv seq size n = z at *
      generalize offOf seq size n = o at *
      go_enter Try.func14, Try.ntmps14
      go_wp2_with fail
      refine (HA.out _).mono ?_
      rintro e w1 ⟨rfl, hb1⟩
      have hb2 : Below w.heap.size w (w1.alloc (.cells #[.int .i64 z, .int .i64 o] 50)) := below_alloc1 hb1
      have hx := LiesAt.new w1 z o 50 (0, 0)
      clear c0 c1 c2 c3 c4 hb1
      go_wp2_with fail
      refine (HH.out _ (T.out.on hb2)).mono ?_
      rintro e w2 ⟨rfl, hb3⟩
      have T2 := Lib.hid (T.out.on (bthen hb2 hb3))
      have B2 := Lib.hid (bthen hb2 hb3)
      have hx2 := hx.below hb3
      clear hx hb2 hb3 T HH HA
      generalize w1.heap.size = bx at hx2 ⊢
      obtain ⟨a0, a1, hlt⟩ := hx2
      have HBX := Lib.hid (T2.out.mp.ne_cell a0)
      obtain ⟨c5, c6⟩ := T2.out.mem
      go_wp2_with fail
      go_still_tail 6, (by kernel_rfl)
      change wpList _ _ _ _ _ w2.drew
      refine wpList_place_store _ rfl _ _ _ _ rfl 3 Try.underlying56 b m _ rfl T2.out.drew.mp (by unfold maxLen; omega) (z, o) rfl HC.out.1 HC.out.2.1 _ rfl ?_
      intro w3 hm3 ht3
      have hg3 := ht3.grown
      obtain ⟨n1, n2, n3⟩ := T2.out.apart
      obtain ⟨l1, l2, l3⟩ := T2.out.lts
      have f3 : Fr (fun k => k = b) w2 w3 := (Fr.refl _).drew.trans (Fr.of_grown hg3 fun k e => by injection e with e; exact e.symm)
      have a0 : w3.cell? ⟨bx, 0, none⟩ = some (.int .i64 z) := (f3.cell (a := ⟨bx, 0, none⟩) hlt HBX.out).trans a0
      have c6 : w3.cell? ⟨d, 6, none⟩ = some (.map (some c)) := (f3.cell (a := ⟨d, 6, none⟩) l1 n1).trans c6
      obtain ⟨g, hgm, hgv⟩ := T2.out.ct
      have hmi : MapIi w3 c m g := hgm.same (f3.same l3 (fun e => n3 e.symm))
      have hlk : (Instr.lookup 57 (.map (some c)) (.int .i64 z) false).run Try.prog w3.drew = .ok (.int .i64 (cn conv seq size l z : Int)) w3.drew := by
        rw [show (Value.int .i64 z) = ilv z from rfl, (hmi.same (w' := w3.drew) rfl).look Try.underlying57 (zero_i _) HC.out.1, hgv]
      have HM := Lib.hid (And.intro hmi (And.intro hm3 (And.intro f3 hgv)))
      clear hm3 f3 hmi hgm hgv hg3 ht3 n1 n2 n3 l1 l2 l3 hlt c5 a1
      have hq := IntWalk.i64_in ((cn conv seq size l z : Int) + 1) (by have := HC.out.2.2; omega)
      have hcn := HC.out.2.2
      generalize cn conv seq size l z = y at *
      go_wp2_with fail
      go_still_tail 8, (by kernel_rfl)
      change wpList _ _ _ _ _ w3.drew
      refine wpList_il_store _ rfl _ _ _ _ rfl 3 Try.underlying57 c m _ rfl (HM.out.1.same (w' := w3.drew) rfl) (by unfold maxLen; omega) z rfl HC.out.1 _ rfl ?_
      intro w4 hm4 ht4
      have hg4 := ht4.grown
      have f4 : Fr (fun k => k = c) w3 w4 := (Fr.refl _).drew.trans (Fr.of_grown hg4 fun k e => by injection e with e; exact e.symm)
      have K := Lib.hid (HF.out _ _ _ T2.out HM.out.2.1 HM.out.2.2.1 g HM.out.2.2.2 hm4 f4)
      clear hm4 ht4 hg4 f4 hlk a0 c6
      go_wp2
      go_ret
      exact ⟨rfl, K.out.1, (Fr.of_below B2.out).trans K.out.2⟩
  · have hib : isB seq size n = false := by cases h : isB seq size n; rfl; exact absurd (isB_iff.1 h) hin
    rw [hib] at HA
    rw [doM_out (v := v) (dr := false) hin]
    have T := Lib.hid t
    clear t hib
    generalize zoneOf conv seq size n = z at *
    generalize offOf seq size n = o at *
    go_enter Try.func14, Try.ntmps14
    go_wp2_with fail
    refine (HA.out _).mono ?_
    rintro e w1 ⟨rfl, hb1⟩
    have hb2 : Hid (Below w.heap.size w (w1.alloc (.cells #[.int .i64 z, .int .i64 o] 50))) := Lib.hid (below_alloc1 hb1)
    clear c0 c1 c2 c3 c4 hb1
    go_wp2
    go_ret
    exact ⟨rfl, (T.out.on hb2.out).mono (Nat.le_succ _), Fr.of_below hb2.out⟩
set_option maxRecDepth 100000 in
set_option maxHeartbeats 2000000 in
theorem lvdrop_any {d b c m : Nat} {conv soft seq size opn : Int} {l : List (Int × Int)} (w : World) (n v : Int) (t : LvIs w d b c m conv soft seq size opn l) (hm : m ≤ 100000) :
    Calls Try.prog 13 #[lvp d, .int .i64 n] w fun e w' => e = .returned (.bool (doM seq size l n v true).2) ∧ LvIs w' d b c (m + 1) conv soft seq size opn (doM seq size l n v true).1 ∧ Fr (TwB b c) w w' := by
  have HA := Lib.hid fun w => at_any conv soft seq size opn n w t.ok
  obtain ⟨c0, c1, c2, c3, c4⟩ := t.geo
  by_cases hin : 1 ≤ n ∧ n ≤ seq * size
  · have hib : isB seq size n = true := isB_iff.2 hin
    rw [hib] at HA
    have hq := t.ok
    obtain ⟨q1, q2, q3, q4, q5⟩ := hq
    have hst : Seat conv seq size (zoneOf conv seq size n) (offOf seq size n) := plN_seat (by omega) hin
    have h64 := seat_w64 t.ok hst
    have hpv : pv conv seq size l (zoneOf conv seq size n, offOf seq size n) = lk l n := pv_num (by omega) hin
    have T := Lib.hid t
    have HH := Lib.hid fun w' (t' : LvIs w' d b c m conv soft seq size opn l) => lvhas_any w' (zoneOf conv seq size n, offOf seq size n) h64.1 h64.2 t'
    cases hl : lk l n with
    | none =>
      rw [hpv, hl] at HH
      rw [doM_not (v := v) (dr := true) (by rw [hl]; simp)]
      clear t hpv hib q1 q2 q3 q4 q5 hst h64
      generalize zoneOf conv seq size n = z at *
      generalize offOf seq size n = o at *
      go_enter Try.func13, Try.ntmps13
      go_wp2_with fail
      refine (HA.out _).mono ?_
      rintro e w1 ⟨rfl, hb1⟩
      have hb2 : Below w.heap.size w (w1.alloc (.cells #[.int .i64 z, .int .i64 o] 50)) := below_alloc1 hb1
      clear c0 c1 c2 c3 c4 hb1
      go_wp2_with fail
      refine (HH.out _ (T.out.on hb2)).mono ?_
      rintro e w2 ⟨rfl, hb3⟩
      go_wp2
      go_ret
      exact ⟨rfl, (T.out.on (bthen hb2 hb3)).mono (Nat.le_succ _), Fr.of_below (bthen hb2 hb3)⟩
    | some u =>
      rw [hpv, hl] at HH
      rw [doM_drop (v := v) hin (by rw [hl]; rfl)]
      have hcnl : cn conv seq size l (zoneOf conv seq size n) ≤ m := Nat.le_trans (cn_le _) t.hl
      have HC := Lib.hid (And.intro h64.1 (And.intro h64.2 hcnl))
      have HF := Lib.hid (fun (w1 w2 w3 : World) (t1 : LvIs w1 d b c m conv soft seq size opn l) (h1 : MapIs w2 b m (updM (bmp conv seq size l) (plN conv seq size n) none)) (f1 : Fr (fun k => k = b) w1 w2)
        (g : Int → Option Value) (hg : ∀ z, (g z).getD (.int .i64 0) = .int .i64 (cn conv seq size l z : Int))
        (h2 : MapIi w3 c (m + 1) (updI g (zoneOf conv seq size n) (some (.int .i64 ((cn conv seq size l (zoneOf conv seq size n) : Int) - 1))))) (f2 : Fr (fun k => k = c) w2 w3) => t1.dropped hin (by rw [hl]; rfl) h1 f1 hg h2 f2)
      rw [show plN conv seq size n = (zoneOf conv seq size n, offOf seq size n) from rfl] at HF
      clear t hpv hib q1 q2 q3 q4 q5 hst h64 hcnl
      generalize zoneOf conv seq size n = z at *
      generalize offOf seq size n = o at *
      go_enter Try.func13, Try.ntmps13
      go_wp2_with fail
      refine (HA.out _).mono ?_
      rintro e w1 ⟨rfl, hb1⟩
      have hb2 : Below w.heap.size w (w1.alloc (.cells #[.int .i64 z, .int .i64 o] 50)) := below_alloc1 hb1
      have hx := LiesAt.new w1 z o 50 (0, 0)
      clear c0 c1 c2 c3 c4 hb1
      go_wp2_with fail
      refine (HH.out _ (T.out.on hb2)).mono ?_
      rintro e w2 ⟨rfl, hb3⟩
      have T2 := Lib.hid (T.out.on (bthen hb2 hb3))
      have B2 := Lib.hid (bthen hb2 hb3)
      have hx2 := hx.below hb3
      clear hx hb2 hb3 T HH HA
      generalize w1.heap.size = bx at hx2 ⊢
      obtain ⟨a0, a1, hlt⟩ := hx2
      have HBX := Lib.hid (T2.out.mp.ne_cell a0)
      obtain ⟨c5, c6⟩ := T2.out.mem
      go_wp2_with fail
      go_still_tail 5, (by kernel_rfl)
      change wpList _ _ _ _ _ w2.drew
      refine wpList_place_drop _ rfl _ _ _ rfl 3 Try.underlying56 b m _ rfl T2.out.drew.mp (z, o) rfl HC.out.1 HC.out.2.1 ?_
      intro w3 hm3 ht3
      have hg3 := ht3.grown
      obtain ⟨n1, n2, n3⟩ := T2.out.apart
      obtain ⟨l1, l2, l3⟩ := T2.out.lts
      have f3 : Fr (fun k => k = b) w2 w3 := (Fr.refl _).drew.trans (Fr.of_grown hg3 fun k e => by injection e with e; exact e.symm)
      have a0 : w3.cell? ⟨bx, 0, none⟩ = some (.int .i64 z) := (f3.cell (a := ⟨bx, 0, none⟩) hlt HBX.out).trans a0
      have c6 : w3.cell? ⟨d, 6, none⟩ = some (.map (some c)) := (f3.cell (a := ⟨d, 6, none⟩) l1 n1).trans c6
      obtain ⟨g, hgm, hgv⟩ := T2.out.ct
      have hmi : MapIi w3 c m g := hgm.same (f3.same l3 (fun e => n3 e.symm))
      have hlk : (Instr.lookup 57 (.map (some c)) (.int .i64 z) false).run Try.prog w3.drew = .ok (.int .i64 (cn conv seq size l z : Int)) w3.drew := by
        rw [show (Value.int .i64 z) = ilv z from rfl, (hmi.same (w' := w3.drew) rfl).look Try.underlying57 (zero_i _) HC.out.1, hgv]
      have HM := Lib.hid (And.intro hmi (And.intro hm3 (And.intro f3 hgv)))
      clear hm3 f3 hmi hgm hgv hg3 ht3 n1 n2 n3 l1 l2 l3 hlt c5 a1
      have hq := IntWalk.i64_in ((cn conv seq size l z : Int) - 1) (by have := HC.out.2.2; omega)
      have hcn := HC.out.2.2
      generalize cn conv seq size l z = y at *
      go_wp2_with fail
      go_still_tail 8, (by kernel_rfl)
      change wpList _ _ _ _ _ w3.drew
      refine wpList_il_store _ rfl _ _ _ _ rfl 3 Try.underlying57 c m _ rfl (HM.out.1.same (w' := w3.drew) rfl) (by unfold maxLen; omega) z rfl HC.out.1 _ rfl ?_
      intro w4 hm4 ht4
      have hg4 := ht4.grown
      have f4 : Fr (fun k => k = c) w3 w4 := (Fr.refl _).drew.trans (Fr.of_grown hg4 fun k e => by injection e with e; exact e.symm)
      have K := Lib.hid (HF.out _ _ _ T2.out HM.out.2.1 HM.out.2.2.1 g HM.out.2.2.2 hm4 f4)
      clear hm4 ht4 hg4 f4 hlk a0 c6
      go_wp2
      go_ret
      exact ⟨rfl, K.out.1, (Fr.of_below B2.out).trans K.out.2⟩
  · have hib : isB seq size n = false := by cases h : isB seq size n; rfl; exact absurd (isB_iff.1 h) hin
    rw [hib] at HA
    rw [doM_out (v := v) (dr := true) hin]
    have T := Lib.hid t
    clear t hib
    generalize zoneOf conv seq size n = z at *
    generalize offOf seq size n = o at *
    go_enter Try.func13, Try.ntmps13
    go_wp2_with fail
    refine (HA.out _).mono ?_
    rintro e w1 ⟨rfl, hb1⟩
    have hb2 : Hid (Below w.heap.size w (w1.alloc (.cells #[.int .i64 z, .int .i64 o] 50))) := Lib.hid (below_alloc1 hb1)
    clear c0 c1 c2 c3 c4 hb1
    go_wp2
    go_ret
    exact ⟨rfl, (T.out.on hb2.out).mono (Nat.le_succ _), Fr.of_below hb2.out⟩
end Go.Proofs.Ytajehmdmgkhkpaa

/-
  'awake' of layer 18 answers true.
-/
import Derived.Test.YtiljjgohmjimdaaTrV
namespace Go.Proofs.Ytiljjgohmjimdaa
open Go.RowKit Word Tran
set_option linter.unusedVariables false

abbrev Tran.dA : List Int := 9 :: List.replicate 31 0
abbrev Tran.wA : Wt := ⟨5, false, dA⟩
theorem wA_in : WIn wA := by simp [WIn]
theorem build_wdA (w : World) : (Instr.build 47 #[(0, .int .u8 9)]).run Try.prog w = .ok (.agg (bs dA).toArray) w := by
  unfold Instr.build
  simp only [Sem.run_bind, zero_wdata w, Result.andThen, run_underlying Try.underlying47, wsize_u8]
  rfl
theorem build_wtA (w : World) : (Instr.build 49 #[(0, .int .i64 5), (2, .agg (bs dA).toArray)]).run Try.prog w = .ok (.agg (twc wA).toArray) w := by
  have hp := wt_places w
  simp only [Program.fieldsOf, Try.underlying49] at hp
  unfold Instr.build
  simp only [Sem.run_bind, zero_wt w, Result.andThen, run_underlying Try.underlying49, hp]
  have e : Instr.fill (fun x => #[((0, 1) : Nat × Nat), (1, 1), (2, 32)][x]?) (Value.agg (twc wt0).toArray).cells [(0, .int .i64 5), (2, .agg (bs dA).toArray)] = some (twc wA).toArray := by
    refine (fill_int _ [] _ _ _ _ 0 0 _ rfl rfl).trans ?_
    exact fill_end _ [_, _] (bs d32) (bs dA) 2 2 (by rw [bs_length]; rfl) rfl (by rw [bs_length, bs_length]; rfl)
  rw [e]
  rfl
theorem wpList_build_one {P : Program} (w : World) {ops : Array Oper} {rest : List Oper} {o : Oper} {a : Act} {Q : Exit → Act → World → Prop} (hgd : o.guard = none) (t : TypeId) (x0 : Operand) (v0 : Value) (ho : o.op = .build t #[(0, x0)]) (cs : List Value) (hb : ∀ w, (Instr.build t #[(0, v0)]).run P w = .ok (.agg cs.toArray) w) (h0 : a.eval x0 = v0)
    (h : wpList P ops Q rest (a.put o.dst (.agg cs.toArray)) w) : wpList P ops Q (o :: rest) a w := by
  refine wpList_plain hgd fun K hK => ?_
  unfold Oper.wp
  simp [execOp, ho, h0, hb w, Result.andThen]
  exact hK _ _ h
theorem wpList_build_two {P : Program} (w : World) {ops : Array Oper} {rest : List Oper} {o : Oper} {a : Act} {Q : Exit → Act → World → Prop} (hgd : o.guard = none) (t : TypeId) (x0 x2 : Operand) (v0 v2 : Value) (ho : o.op = .build t #[(0, x0), (2, x2)]) (cs : List Value) (hb : ∀ w, (Instr.build t #[(0, v0), (2, v2)]).run P w = .ok (.agg cs.toArray) w) (h0 : a.eval x0 = v0) (h2 : a.eval x2 = v2)
    (h : wpList P ops Q rest (a.put o.dst (.agg cs.toArray)) w) : wpList P ops Q (o :: rest) a w := by
  refine wpList_plain hgd fun K hK => ?_
  unfold Oper.wp
  simp [execOp, ho, h0, h2, hb w, Result.andThen]
  exact hK _ _ h
theorem TBx.set {w W W' : World} {b : Nat} {T : TypeId} {cs cs' : List Value} {l : List (Nat × TypeId × List Value)} (h : TBx w W ((b, T, cs) :: l)) (hx : Box W' b T cs') (hg : W.grownBy W' (some b)) (hne : ∀ y ∈ l, y.1 ≠ b) (hb : w.heap.size ≤ b) : TBx w W' ((b, T, cs') :: l) := by
  refine ⟨fun y hy => ?_, below_stored h.2 hg h.2.size hb⟩
  rcases List.mem_cons.1 hy with rfl | hy
  · exact hx
  · exact (h.1 y (.tail _ hy)).grown hg (hne y hy)
theorem lIn_lz (w : World) : LIn w lz := ⟨by decide, TRd.nil, fun y hy => by cases hy⟩
theorem tin_small {t : Tn} (h : t.ws.length ≤ 100) (hi : ∀ o ∈ t.ws, WIn o) : TIn t := ⟨by omega, hi⟩
abbrev Tran.t3 : Tn := ⟨0, 3, []⟩
abbrev Tran.t4 : Tn := ⟨0, 3, [wA]⟩
theorem tids_one (t : Tn) (A : Option Addr) (c : Nat) : Rise (tids [⟨t, A, c⟩]) := rise_len _ (by simp [tids])
theorem tin_t3 : TIn t3 := ⟨by decide, fun o ho => by cases ho⟩
theorem tin_t4 : TIn t4 := ⟨by decide, fun o ho => by rw [List.mem_singleton.1 ho]; exact wA_in⟩
set_option maxRecDepth 100000 in
set_option maxHeartbeats 8000000 in
theorem awake18_any (w : World) : Calls Try.prog 5 #[] w fun e w' => e = .returned (.bool true) ∧ Below w.heap.size w w' := by
  have HZ := Lib.hid (TBx.nil w)
  go_enter Try.func5, Try.ntmps5
  go_wp2_with fail
  refine (begin_yes (x := lz) (now := 3) (lIn_lz w) (by decide) (by decide)).mono ?_
  rintro e w1 ⟨⟨ny, L, A1, c1⟩, rfl, hny, hmap, hown, hb⟩
  obtain rfl : ny = 1 := hny
  obtain ⟨A0, c0, rfl⟩ : ∃ A c, L = [⟨t3, A, c⟩] := map_one hmap
  have HT1 := Lib.hid (And.intro (HZ.out.on hb) hown)
  clear hown hb hmap
  go_wp2_with (first
    | ((with_reducible refine wpList_alloc_box _ (o := ⟨some 1, .alloc _, _, _, _, _⟩) rfl _ rfl (lgc lz) zero_lg ?_); intro w20 x20 B20 s20)
    | ((with_reducible refine wpList_store_var _ (o := ⟨none, .store _ (.tmp 1) _, _, _, _, _⟩) rfl 24 _ _ rfl w1.heap.size (lgc ⟨1, [⟨t3, A0, c0⟩], A1, c1⟩) (lgc lz) (lg_size _) rfl (lgc_one _) rfl rfl x20 ?_); go_loud (intro w2 x2 g2; have K2 := below_stored B20 g2 B20.size (Nat.le_refl _); have HT2 := Lib.hid (And.intro (HT1.out.1.made B20 g2 x2) (HT1.out.2.on K2)); obtain ⟨p0, p1⟩ := lg_box x2; clear x20 B20 s20 g2 x2 K2; generalize w1.heap.size = b1 at *))
    | fail)
  have HL2 := Lib.hid (HT2.out.2.inn (show (1 : Nat) ≤ 10000 by decide) (fun y hy => by rw [List.mem_singleton.1 hy]; exact tin_t3))
  refine (get_yes (t := t3) HL2.out (tids_one _ _ _) rfl).mono ?_
  rintro e w3 ⟨A3, c3, rfl, hown, _, hb⟩
  have KB3 := Lib.hid hb
  have HLe2 := Lib.hid hb.size
  have HT3 := Lib.hid (And.intro (HT2.out.1.on hb) (And.intro (HL2.out.on hb) hown))
  clear hown hb p0 p1
  go_wp2_with (first
    | ((with_reducible refine wpList_alloc_box _ (o := ⟨some 4, .alloc _, _, _, _, _⟩) rfl _ rfl (tnc tz) zero_tn ?_); intro w40 x40 B40 s40)
    | ((with_reducible refine wpList_store_var _ (o := ⟨none, .store _ (.tmp 4) _, _, _, _, _⟩) rfl 27 _ _ rfl w3.heap.size (tnc ⟨t3, A3, c3⟩) (tnc tz) (tn_size _) rfl (tnc_one _) rfl rfl x40 ?_); go_loud (intro w4 x4 g4; have K4 := below_stored B40 g4 B40.size (Nat.le_refl _); have HT4 := Lib.hid (And.intro (HT3.out.1.made B40 g4 x4) (And.intro (HT3.out.2.1.on K4) (own_below HT3.out.2.2 K4))); have KB4 := Lib.hid (bthen KB3.out K4); have HNe : Hid (b1 ≠ w3.heap.size) := Lib.hid (Nat.ne_of_lt HT3.out.1.head.lt); have HLe : Hid (w.heap.size ≤ w3.heap.size) := Lib.hid HT3.out.1.2.size; obtain ⟨q0, q1, q2⟩ := tn_box x4; clear x40 B40 s40 g4 x4 K4; generalize w3.heap.size = b4 at *))
    | ((with_reducible refine wpList_build_one _ (o := ⟨some 26, .build _ _, _, _, _, _⟩) rfl _ _ _ rfl (bs dA) build_wdA rfl ?_))
    | ((with_reducible refine wpList_build_two _ (o := ⟨some 27, .build _ _, _, _, _, _⟩) rfl _ _ _ _ _ rfl (twc wA) build_wtA rfl rfl ?_))
    | fail)
  refine (put_any ⟨t3, A3, c3⟩ wA w4 (show (0 : Nat) ≤ 10000 by decide) (SlOk.own HT4.out.2.2) (fun o ho => by cases ho) wA_in rise_nil Rd.empty).mono ?_
  rintro e w5 ⟨⟨t5, A5, c5⟩, rfl, ht5, hown, hb⟩
  obtain rfl : t5 = t4 := ht5
  have KB5 := Lib.hid (bthen KB4.out hb)
  have HT5 := Lib.hid (And.intro (HT4.out.1.on hb) (And.intro (HT4.out.2.1.on hb) hown))
  clear hown hb q0 q1 q2
  go_wp2_with (first
    | ((with_reducible refine wpList_store_var _ (o := ⟨none, .store _ (.tmp 4) _, _, _, _, _⟩) rfl 27 _ _ rfl b4 (tnc ⟨t4, A5, c5⟩) (tnc ⟨t3, A3, c3⟩) (tn_size _) rfl (tnc_one _) rfl rfl HT5.out.1.head ?_); go_loud (intro w6 x6 g6; have hb6 := HT5.out.1.set x6 g6 (fun y hy => by rw [List.mem_singleton.1 hy]; exact HNe.out) HLe.out; have ho6 := trow_kept HT5.out.2.2 g6 (fun b hb e => by injection e with e; subst e; exact ttypes_box HT5.out.1.head HT5.out.2.2 hb); have KB6 := Lib.hid (below_stored KB5.out g6 KB5.out.size HLe2.out); obtain ⟨q0, q1, q2⟩ := tn_box x6; have HT6 := Lib.hid (And.intro hb6 ho6); clear x6 g6 hb6 ho6))
    | fail)
  have HR6 := Lib.hid (Rd.own HT6.out.2)
  refine (find_any ⟨t4, A5, c5⟩ 5 w6 (show (1 : Nat) ≤ 100000 by decide) tin_t4.2 (rise_len _ (show (1 : Nat) ≤ 1 by decide)) HR6.out).mono ?_
  rintro e w7 ⟨rfl, hb⟩
  rw [show fnv 5 t4.ws = tnv wA true from rfl]
  have KB7 := Lib.hid (bthen KB6.out hb)
  have HT7 := Lib.hid (And.intro (HT6.out.1.on hb) (own_below HT6.out.2 hb))
  clear hb q0 q1 q2
  go_wp2_with (first
    | ((with_reducible refine wpList_wt_alloc (o := ⟨some 6, .alloc _, _, _, _, _⟩) rfl rfl ?_); intro w80 x80 B80 s80)
    | ((with_reducible refine wpList_wt_store (o := ⟨none, .store _ (.tmp 6) _, _, _, _, _⟩) rfl _ _ rfl w7.heap.size wA wt0 wA_in wt0_in rfl rfl x80 ?_); go_loud (intro w8 x8 g8 _; have K8 := below_stored B80 g8 B80.size (Nat.le_refl _); have HT8 := Lib.hid (And.intro (HT7.out.1.made B80 g8 x8) (own_below HT7.out.2 K8)); have KB8 := Lib.hid (bthen KB7.out K8); obtain ⟨p0, p1⟩ := lg_box (HT8.out.1.get (.tail _ (.tail _ (.head _)))); obtain ⟨q0, q1, q2⟩ := tn_box (HT8.out.1.get (.tail _ (.head _))); clear x80 B80 s80 g8 x8 K8; generalize w7.heap.size = b6 at *))
    | fail)
  have HL8 := Lib.hid (show LIn w8 ⟨1, [⟨t3, A0, c0⟩], A1, c1⟩ from HL2.out.on KB8.out)
  refine (set_any ⟨1, [⟨t3, A0, c0⟩], A1, c1⟩ ⟨t4, A5, c5⟩ w8 HL8.out (tids_one _ _ _) tin_t4 (Rd.own HT8.out.2)).mono ?_
  rintro e w9 ⟨⟨ny, L, A9, c9⟩, rfl, hny, hmap, hown, hb⟩
  obtain rfl : ny = 1 := hny
  obtain ⟨A6, c6, rfl⟩ : ∃ A c, L = [⟨t4, A, c⟩] := map_one hmap
  obtain ⟨g9, rfl, _, _⟩ := own_at hown.own.row (show 0 < 1 by decide)
  have HT9 := Lib.hid (And.intro (HT8.out.1.on hb) (And.intro (own_below HT8.out.2 hb) hown))
  clear hown hb hmap p0 p1 q0 q1 q2
  go_wp2_with (first
    | ((with_reducible refine wpList_alloc_box _ (o := ⟨some 8, .alloc _, _, _, _, _⟩) rfl _ rfl (lgc lz) zero_lg ?_); intro w100 x100 B100 s100)
    | ((with_reducible refine wpList_store_var _ (o := ⟨none, .store _ (.tmp 8) _, _, _, _, _⟩) rfl 24 _ _ rfl w9.heap.size (lgc ⟨1, [⟨t4, A6, c6⟩], some ⟨g9, 0, none⟩, c9⟩) (lgc lz) (lg_size _) rfl (lgc_one _) rfl rfl x100 ?_); go_loud (intro w10 x10 g10; have K10 := below_stored B100 g10 B100.size (Nat.le_refl _); have HT10 := Lib.hid (And.intro (HT9.out.1.made B100 g10 x10) (And.intro (own_below HT9.out.2.1 K10) (HT9.out.2.2.on K10))); obtain ⟨p0, p1⟩ := lg_box x10; clear x100 B100 s100 g10 x10 K10; generalize w9.heap.size = b8 at *))
    | fail)
  have HM10 := Lib.hid (HT10.out.2.2.inn (show (1 : Nat) ≤ 10000 by decide) (fun y hy => by rw [List.mem_singleton.1 hy]; exact tin_t4))
  refine (get_no HM10.out (tids_one _ _ _) rfl).mono ?_
  rintro e w11 ⟨A11, c11, rfl, hb⟩
  have HT11 := Lib.hid (And.intro (HT10.out.1.on hb) (And.intro (own_below HT10.out.2.1 hb) (And.intro (HT10.out.2.2.on hb) (HM10.out.on hb))))
  clear hb p0 p1
  go_wp2_with (first
    | ((with_reducible refine wpList_alloc_box _ (o := ⟨some 9, .alloc _, _, _, _, _⟩) rfl _ rfl (tnc tz) zero_tn ?_); intro w120 x120 B120 s120)
    | ((with_reducible refine wpList_store_var _ (o := ⟨none, .store _ (.tmp 9) _, _, _, _, _⟩) rfl 27 _ _ rfl w11.heap.size (tnc ⟨tn0, A11, c11⟩) (tnc tz) (tn_size _) rfl (tnc_one _) rfl rfl x120 ?_); go_loud (intro w12 x12 g12; have K12 := below_stored B120 g12 B120.size (Nat.le_refl _); have HT12 := Lib.hid (And.intro (HT11.out.1.made B120 g12 x12) (And.intro (own_below HT11.out.2.1 K12) (And.intro (HT11.out.2.2.1.on K12) (HT11.out.2.2.2.on K12)))); obtain ⟨p0, p1⟩ := lg_box (HT12.out.1.get (.tail _ (.head _))); clear x120 B120 s120 g12 x12 K12; generalize w11.heap.size = b9 at *))
    | fail)
  refine (drop_is (k := 0) HT12.out.2.2.2 (tids_one _ _ _) rfl).mono ?_
  rintro e w13 ⟨⟨ny, L, A13, c13⟩, rfl, hny, hmap, hown, hb⟩
  obtain rfl : ny = 1 := hny
  obtain rfl : L = [] := map_none hmap
  have HT13 := Lib.hid (And.intro (HT12.out.1.on hb) (And.intro (own_below HT12.out.2.1 hb) (And.intro (HT12.out.2.2.1.on hb) (HT12.out.2.2.2.on hb))))
  clear hown hb hmap p0 p1
  go_wp2_with (first
    | ((with_reducible refine wpList_alloc_box _ (o := ⟨some 11, .alloc _, _, _, _, _⟩) rfl _ rfl (lgc lz) zero_lg ?_); intro w140 x140 B140 s140)
    | ((with_reducible refine wpList_store_var _ (o := ⟨none, .store _ (.tmp 11) _, _, _, _, _⟩) rfl 24 _ _ rfl w13.heap.size (lgc ⟨1, [], A13, c13⟩) (lgc lz) (lg_size _) rfl (lgc_one _) rfl rfl x140 ?_); go_loud (intro w14 x14 g14; have K14 := below_stored B140 g14 B140.size (Nat.le_refl _); have HT14 := Lib.hid (And.intro (HT13.out.1.made B140 g14 x14) (And.intro (own_below HT13.out.2.1 K14) (And.intro (HT13.out.2.2.1.on K14) (HT13.out.2.2.2.on K14)))); obtain ⟨n0, n1⟩ := lg_box x14; obtain ⟨l0, l1⟩ := lg_box (HT14.out.1.get (.tail _ (.tail _ (.tail _ (.tail _ (.tail _ (.head _))))))); obtain ⟨t0, t1, t2⟩ := tn_box (HT14.out.1.get (.tail _ (.tail _ (.tail _ (.tail _ (.head _)))))); have v2 : w14.cell? ⟨b6, 2, none⟩ = some (.int .u8 9) := (HT14.out.1.get (.tail _ (.tail _ (.tail _ (.head _))))).cell 2; have e2 : w14.cell? ⟨g9, 2, none⟩ = some (.slice A6 1 c6) := tn_zero2 HT14.out.2.2.2.rd.1 rfl; obtain ⟨m0, m1⟩ := lg_box (HT14.out.1.get (.tail _ (.tail _ (.head _)))); clear x140 B140 s140 g14 x14 K14; generalize w13.heap.size = b11 at *))
    | fail)
  refine (puts_any ⟨t4, A5, c5⟩ w14 (show (1 : Nat) ≤ 100000 by decide) tin_t4.2 (Rd.own HT14.out.2.1)).mono ?_
  rintro e w15 ⟨rfl, hb⟩
  rw [show ((cntW t4.ws : Nat) : Int) = 1 from rfl]
  have HT15 := Lib.hid (And.intro (HT14.out.1.on hb) (And.intro (own_below HT14.out.2.1 hb) (And.intro (HT14.out.2.2.1.on hb) (HT14.out.2.2.2.on hb))))
  clear hb n0 n1 l0 l1 t0 t1 t2 v2 e2 m0 m1
  obtain ⟨n0, n1⟩ := lg_box HT15.out.1.head
  obtain ⟨m0, m1⟩ := lg_box (HT15.out.1.get (.tail _ (.tail _ (.head _))))
  have e2 : w15.cell? ⟨g9, 2, none⟩ = some (.slice A6 1 c6) := tn_zero2 HT15.out.2.2.2.rd.1 rfl
  go_wp2_with fail
  refine (oldest_any ⟨1, [⟨t4, A6, c6⟩], some ⟨g9, 0, none⟩, c9⟩ 9 w15 HT15.out.2.2.2).mono ?_
  rintro e w16 ⟨rfl, hb⟩
  dsimp only
  rw [show oldT 9 ([(⟨t4, A6, c6⟩ : Tv)].map Tv.t) = 3 from rfl]
  have HB := Lib.hid (HT15.out.1.on hb).2
  clear hb n0 n1 m0 m1 e2
  go_wp2
  go_ret
  exact ⟨rfl, HB.out⟩
end Go.Proofs.Ytiljjgohmjimdaa

/-
  ScL ScN
-/
import Derived.Test.YthgjlofebicpiaaMg37
import Derived.Test.YthgjlofebicpiaaMg15
import Derived.Test.YthgjlofebicpiaaMg20
import Derived.Test.YthgjlofebicpiaaMg38
/-
  Layer 14's answers: Little, a record of a number; records laid on a device.
-/
namespace Go.Proofs.Ythgjlofebicpiaa
open Go.RowKit Geom Zone Dev Word Rec Scan
set_option linter.unusedVariables false

namespace Scan
def littleS (conv soft seq size opn : Int) : Bool := Geom.okB conv soft seq size opn && decide (conv + seq ≤ 14) && decide (size ≤ 24) && decide (soft ≤ 60)
theorem littleS_yes {conv soft seq size opn : Int} (h : littleS conv soft seq size opn = true) : Geom.Ok conv soft seq size opn ∧ conv + seq ≤ 14 ∧ size ≤ 24 ∧ soft ≤ 60 := by
  unfold littleS at h
  simp only [Bool.and_eq_true, decide_eq_true_eq] at h
  exact ⟨of_decide_eq_true h.1.1.1, h.1.1.2, h.1.2, h.2⟩
/-- a record of a number, of an epoch -/
abbrev putR (e s : Int) : Rc := ⟨2, e, s, 1, 0, z32⟩
theorem putR_in (e s : Int) : In (putR e s) := ⟨by simp [z32], fun z hz => by simp [z32] at hz; omega⟩
theorem putR_ok {e s : Int} (he : Rec.num e) (hs : Rec.num s) : Ok (putR e s) := ⟨he, hs, .inr (.inl ⟨rfl, ⟨(by show (0 : Int) ≤ 1; decide), (by show (1 : Int) < 4096; decide)⟩, rfl, rfl⟩)⟩
end Scan
set_option maxHeartbeats 4000000 in
theorem sclittle_any (conv soft seq size opn : Int) (w : World) (h64 : W64 conv ∧ W64 soft ∧ W64 seq ∧ W64 size ∧ W64 opn) :
    Calls Try.prog 8 #[gvS conv soft seq size opn] w fun e w' => e = .returned (.bool (littleS conv soft seq size opn)) ∧ Below w.heap.size w w' := by
  have HR := Lib.hid fun w' => rright_any conv soft seq size opn w'
  go_enter Try.func8, Try.ntmps8
  go_wp2_with fail
  have hl := Lies.new w conv soft seq size opn 23 (0, 0)
  have hB1 : Below w.heap.size w (w.alloc (.cells #[.int .i64 conv, .int .i64 soft, .int .i64 seq, .int .i64 size, .int .i64 opn] 23)) := (Below.refl _ _).alloc (Nat.le_refl _) _
  generalize World.alloc _ _ = w1 at hl hB1 ⊢
  refine (HR.out w1).mono ?_
  rintro e w2 ⟨rfl, hb2⟩
  obtain ⟨c0, c1, c2, c3, c4, hlt⟩ := hl.below hb2
  have HB := Lib.hid (hB1.trans (hb2.mono hB1.size))
  clear hl hB1 hb2 HR
  have HL := Lib.hid (show littleS conv soft seq size opn = (Geom.okB conv soft seq size opn && decide (conv + seq ≤ 14) && decide (size ≤ 24) && decide (soft ≤ 60)) from rfl)
  cases ho : Geom.okB conv soft seq size opn with
  | false =>
    have HD := Lib.hid (show littleS conv soft seq size opn = false by rw [HL.out, ho]; rfl)
    clear ho HL
    go_wp2
    go_ret
    exact ⟨ret_bool HD.out, HB.out⟩
  | true =>
    have hok : Geom.Ok conv soft seq size opn := of_decide_eq_true ho
    have k1 := hok.1
    have k2 := hok.2.1
    have k3 := hok.2.2.1
    have HO := Lib.hid ho
    clear ho hok
    by_cases q1 : conv + seq ≤ 14
    · by_cases q2 : size ≤ 24
      · by_cases q3 : soft ≤ 60
        · have HD := Lib.hid (show littleS conv soft seq size opn = true by rw [HL.out, HO.out, decide_eq_true q1, decide_eq_true q2, decide_eq_true q3]; rfl)
          clear HL HO
          go_wp2
          go_ret
          exact ⟨ret_bool HD.out, HB.out⟩
        · have HD := Lib.hid (show littleS conv soft seq size opn = false by rw [HL.out, HO.out, decide_eq_true q1, decide_eq_true q2, decide_eq_false q3]; rfl)
          clear HL HO
          go_wp2
          go_ret
          exact ⟨ret_bool (HD.out.trans (decide_eq_false (by omega)).symm), HB.out⟩
      · have HD := Lib.hid (show littleS conv soft seq size opn = false by rw [HL.out, HO.out, decide_eq_true q1, decide_eq_false q2]; rfl)
        clear HL HO
        go_wp2
        go_ret
        exact ⟨ret_bool HD.out, HB.out⟩
    · have HD := Lib.hid (show littleS conv soft seq size opn = false by rw [HL.out, HO.out, decide_eq_false q1]; rfl)
      clear HL HO
      go_wp2
      go_ret
      exact ⟨ret_bool HD.out, HB.out⟩

theorem run_build_rec4 (w : World) (k e s b : Int) :
    (Instr.build 50 #[(0, .int .i64 k), (1, .int .i64 e), (2, .int .i64 s), (3, .int .i64 b)]).run Try.prog w = .ok (.agg (rcs ⟨k, e, s, b, 0, z32⟩).toArray) w := by
  have hp := rec_places w
  simp only [Program.fieldsOf, Try.underlying50] at hp
  unfold Instr.build
  simp only [Sem.run_bind, zero_rec w, Result.andThen, run_underlying Try.underlying50, hp]
  have e : Instr.fill (fun x => #[((0, 1) : Nat × Nat), (1, 1), (2, 1), (3, 1), (4, 1), (5, 32)][x]?) (Value.agg (rcs rc0).toArray).cells [(0, .int .i64 k), (1, .int .i64 e), (2, .int .i64 s), (3, .int .i64 b)] = some (rcs ⟨k, e, s, b, 0, z32⟩).toArray := by
    refine (fill_int _ [] _ _ _ _ 0 0 _ rfl rfl).trans ?_
    refine (fill_int _ [_] _ _ _ _ 1 1 _ rfl rfl).trans ?_
    refine (fill_int _ [_, _] _ _ _ _ 2 2 _ rfl rfl).trans ?_
    exact (fill_int _ [_, _, _] _ _ _ _ 3 3 _ rfl rfl).trans rfl
  rw [e]
  rfl
theorem wpList_rc_build4 {w : World} {ops : Array Oper} {rest : List Oper} {o : Oper} {a : Act} {Q : Exit → Act → World → Prop} (hgd : o.guard = none) (x0 x1 x2 x3 : Operand) (ho : o.op = .build 50 #[(0, x0), (1, x1), (2, x2), (3, x3)]) (k e s b : Int)
    (h0 : a.eval x0 = .int .i64 k) (h1 : a.eval x1 = .int .i64 e) (h2 : a.eval x2 = .int .i64 s) (h3 : a.eval x3 = .int .i64 b)
    (h : wpList Try.prog ops Q rest (a.put o.dst (.agg (rcs ⟨k, e, s, b, 0, z32⟩).toArray)) w) : wpList Try.prog ops Q (o :: rest) a w := by
  refine wpList_plain hgd fun K hK => ?_
  unfold Oper.wp
  simp [execOp, ho, h0, h1, h2, h3, run_build_rec4 w k e s b, Result.andThen]
  exact hK _ _ h
set_option maxRecDepth 100000 in
theorem scput_any (ep sq : Int) (w : World) : Calls Try.prog 18 #[.int .i64 ep, .int .i64 sq] w fun e w' => e = .returned (.agg (rcs (putR ep sq)).toArray) ∧ Below w.heap.size w w' := by
  obtain ⟨mr, hmr, hszr⟩ := big_size (P := Try.prog) (t := 50) (s := 37) (by kernel_rfl)
  have hmr0 : ¬ mr = 0 := by omega
  have HI := Lib.hid (putR_in ep sq)
  go_enter Try.func18, Try.ntmps18
  go_wp2_with (first
    | ((with_reducible refine wpList_rc_alloc (o := ⟨some 4, .alloc _, _, _, _, _⟩) rfl rfl ?_); intro w1 x1 hB1 hs1; clear hs1)
    | ((with_reducible refine wpList_rc_build4 (o := ⟨some 7, .build _ _, _, _, _, _⟩) rfl _ _ _ _ rfl 2 ep sq 1 rfl rfl rfl rfl ?_))
    | ((with_reducible refine wpList_rc_store (o := ⟨none, .store _ (.tmp 4) _, _, _, _, _⟩) rfl _ _ rfl w.heap.size (putR ep sq) rc0 HI.out rc0_in rfl rfl x1 ?_); go_loud (intro w2 x2 hg2 hs2))
    | fail)
  have hB := below_stored hB1 hg2 hB1.size (Nat.le_refl _)
  have hld := big_load0 Try.prog w.heap.size 0 (rcs (putR ep sq)) mr (by rw [rcs_length HI.out.1, hmr]) _ x2.range0
  generalize hR : rcs (putR ep sq) = R at hld ⊢
  exact bodyPost_ret (v := .agg R.toArray) (by simp [results, Try.results18, go_sem, hszr, hld]) rfl ⟨rfl, hB⟩
end Go.Proofs.Ythgjlofebicpiaa

/-
  Layer 14's answers: records laid on a device.
-/
namespace Go.Proofs.Ythgjlofebicpiaa
open Go.RowKit Geom Zone Dev Word Rec Scan
set_option linter.unusedVariables false

/-- a step's cells -/
def stcs (x : St) : List Value := .int .u8 x.zone :: (rcs x.r ++ [.bool x.junk])
theorem stcs_length {x : St} (h : In x.r) : (stcs x).length = 39 := by simp [stcs, rcs_length h.1]
theorem stcs_one (x : St) : ∀ u ∈ stcs x, u.oneCell' = true := by
  intro u hu
  rcases List.mem_cons.1 hu with rfl | hu
  · rfl
  · rcases List.mem_append.1 hu with hu | hu
    · exact rcs_one _ u hu
    · rw [List.mem_singleton.1 hu]; rfl
def stls (l : List St) : List Value := l.flatMap stcs
theorem st_load {w : World} {B k : Nat} {A : Option Addr} {l : List St} {x : St} {m mr : Nat} (hr : Rd w B A (stls l)) (hin : ∀ x ∈ l, In x.r) (hk : l[k]? = some x) (hm : m = 39) (hmr : mr = 37) :
    ∃ ad, A = some ad ∧ ad.block < B ∧ ∀ w' : World, (∀ p : Addr, p.block < B → w'.cell? p = w.cell? p) → w'.cell? (ad.add (k * m)) = some (.int .u8 x.zone) ∧ (loadCellsFrom ⟨(ad.add (k * m)).block, (ad.add (k * m)).off + 1, none⟩ 0 mr #[]).run Try.prog w' = .ok (rcs x.r).toArray w' ∧
      w'.cell? ⟨(ad.add (k * m)).block, (ad.add (k * m)).off + 38, none⟩ = some (.bool x.junk) := by
  have hx := hin x (List.mem_of_getElem? hk)
  have hl : ∀ y ∈ l, (stcs y).length = 39 := fun y hy => stcs_length (hin y hy)
  have hg : ∀ j, j < 39 → (stls l)[k * 39 + j]? = (stcs x)[j]? := fun j hj => flat_get stcs 39 l k j x hl hk hj
  obtain ⟨ad, hA, hb, _⟩ := hr.at ((hg 0 (by omega)).trans (show (stcs x)[0]? = some (.int .u8 x.zone) from rfl))
  subst hA
  subst hm
  subst hmr
  have hc : ∀ w' : World, (∀ p : Addr, p.block < B → w'.cell? p = w.cell? p) → ∀ j v, j < 39 → (stcs x)[j]? = some v → w'.cell? ((ad.add (k * 39)).add j) = some v := fun w' hw j v hj hv => by
    obtain ⟨ad2, e, _, h⟩ := hr.at ((hg j hj).trans hv)
    obtain rfl : ad = ad2 := by injection e
    rw [hw _ (by rw [addr_add_block, addr_add_block]; exact hb), addr_add_add]
    exact h
  have e0 : (ad.add (k * 39)).add 0 = ad.add (k * 39) := by rw [addr_add_add]; rfl
  have e1 : (⟨(ad.add (k * 39)).block, (ad.add (k * 39)).off + 1, none⟩ : Addr) = (ad.add (k * 39)).add 1 := by simp [Addr.add]
  have e38 : (⟨(ad.add (k * 39)).block, (ad.add (k * 39)).off + 38, none⟩ : Addr) = (ad.add (k * 39)).add 38 := by simp [Addr.add]
  refine ⟨ad, rfl, hb, fun w' hw => ⟨?_, ?_, ?_⟩⟩
  · rw [← e0]
    exact hc w' hw 0 _ (by omega) rfl
  · rw [e1]
    refine big_load Try.prog _ (rcs x.r) 37 (rcs_length hx.1) w' fun j v hj => ?_
    have hjl : j < (rcs x.r).length := (List.getElem?_eq_some_iff.1 hj).1
    rw [rcs_length hx.1] at hjl
    have := hc w' hw (1 + j) v (by omega) (by
      rw [show 1 + j = j + 1 by omega]
      show (rcs x.r ++ [.bool x.junk])[j]? = some v
      rw [List.getElem?_append_left (by rw [rcs_length hx.1]; omega)]
      exact hj)
    rw [addr_add_add] at this ⊢
    rw [addr_add_add]
    exact this
  · rw [e38]
    refine hc w' hw 38 _ (by omega) ?_
    show (rcs x.r ++ [.bool x.junk])[37]? = some _
    rw [List.getElem?_append_right (by rw [rcs_length hx.1]; omega), rcs_length hx.1]
    rfl
section
variable {w W W' : World} {X : List Nat} {d : Nat} {D D' : Dv}
theorem DvSt.more2 (h : DvSt w W X d D) (hb : Below W.heap.size W W') (Y : List Nat) (hY : ∀ b ∈ Y, W.heap.size ≤ b ∧ b < W'.heap.size) : DvSt w W' (Y ++ X) d D := by
  have h0 : DevIs (TX w.heap.size (Y ++ X)) W d D := h.1.shrink fun k h1 h2 => ⟨h2.1, fun hx => by
    rcases List.mem_append.1 hx with h3 | h3
    · have := (hY k h3).1; omega
    · exact h2.2 h3⟩
  exact ⟨h0.below hb, bthen h.2.1 hb, fun b hb' => by
    rcases List.mem_append.1 hb' with h3 | h3
    · exact (hY b h3).2
    · exact Nat.lt_of_lt_of_le (h.2.2 b h3) hb.size⟩
theorem DvSt.less2 {Y : List Nat} (h : DvSt w W Y d D) (hX : ∀ b ∈ X, b ∈ Y) : DvSt w W X d D := ⟨h.1.shrink fun k h1 h2 => ⟨h2.1, fun hx => h2.2 (hX k hx)⟩, h.2.1, fun b hb => h.2.2 b (hX b hb)⟩
end
set_option maxRecDepth 100000 in
set_option maxHeartbeats 4000000 in
/-- the answer's Lay -/
theorem rlayd_any (conv soft seq size opn : Int) (n len cap : Nat) (A : Option Addr) (l : List St) (w : World) (H : Geom.Ok conv soft seq size opn) (hn : (n : Int) = conv + seq) (hl : l.length = len) (hm : len ≤ 200) (hin : ∀ x ∈ l, StIn x) (hr : Rd w w.heap.size A (stls l)) :
    Calls Try.prog 9 #[gvS conv soft seq size opn, .slice A len cap] w fun e w' => ∃ d, e = .returned (dp d) ∧ DevIs (fun k => w.heap.size ≤ k) w' d (layD (newD conv soft seq size opn n) l) ∧ Below w.heap.size w w' := by
  obtain ⟨mp, hmp, hszp⟩ := big_size (P := Try.prog) (t := 62) (s := 64) (by kernel_rfl)
  obtain ⟨mr, hmr, hszr⟩ := big_size (P := Try.prog) (t := 50) (s := 37) (by kernel_rfl)
  obtain ⟨ms, hms, hszs⟩ := big_size (P := Try.prog) (t := 53) (s := 39) (by kernel_rfl)
  have hmp0 : ¬ mp = 0 := by omega
  have hmr0 : ¬ mr = 0 := by omega
  have hms0 : ¬ ms = 0 := by omega
  have HM := Lib.hid (And.intro hmp (And.intro hmr hms))
  have HN := Lib.hid (And.intro hl (And.intro hin hr))
  have HG := Lib.hid (And.intro H hn)
  have hU := up_new H hn
  have HU := Lib.hid hU
  have HNw := Lib.hid fun w' => dnew_any conv soft seq size opn n w' H hn
  obtain ⟨q1, q2, q3, q4, q5, q6, q7, q8⟩ := H
  clear hmp hmr hms hl hin hr hn hU q7
  generalize newD conv soft seq size opn n = D0 at *
  go_enter Try.func9, Try.ntmps9
  go_wp2_with (first
    | ((with_reducible refine wpList_box_box _ (o := ⟨some 2, .box _ _, _, _, _, _⟩) rfl _ _ rfl (gcS conv soft seq size opn) rfl ?_); intro w1 x0 hB1 hs1; have c0 : w1.cell? ⟨w.heap.size, 0, none⟩ = some (.int .i64 conv) := x0.cell 0; have c1 : w1.cell? ⟨w.heap.size, 1, none⟩ = some (.int .i64 soft) := x0.cell 1; have c2 : w1.cell? ⟨w.heap.size, 2, none⟩ = some (.int .i64 seq) := x0.cell 2; have c3 : w1.cell? ⟨w.heap.size, 3, none⟩ = some (.int .i64 size) := x0.cell 3; have c4 : w1.cell? ⟨w.heap.size, 4, none⟩ = some (.int .i64 opn) := x0.cell 4)
    | fail)
  refine (HNw.out w1).mono ?_
  rintro e w2 ⟨d, rfl, hI, hB2⟩
  have HS2 : Hid (DvSt w w2 [w.heap.size] d D0 ∧ Box w2 w.heap.size 23 (gcS conv soft seq size opn)) := Lib.hid ⟨⟨hI.shrink fun k _ hk => ⟨Nat.le_trans hB1.size hk, fun hx => by rw [List.mem_singleton.1 hx] at hk; omega⟩, bthen hB1 hB2, fun b hb => by rw [List.mem_singleton.1 hb]; have := hB2.size; omega⟩, x0.on hB2⟩
  clear hI hB2 c0 c1 c2 c3 c4 x0 hB1 hs1 HNw
  go_wp2_with fail
  go_loopw [6] (fun i wr => ∃ k : Nat, k ≤ len ∧ i = .int .i64 k ∧ DvSt w wr [w.heap.size] d (layD D0 (l.take k)) ∧ Box wr w.heap.size 23 (gcS conv soft seq size opn)) (fun i _ => len - (intOf i).toNat)
  case atStart => exact ⟨0, by omega, rfl, HS2.out⟩
  case round =>
    clear HS2
    obtain ⟨k, hk, rfl, hst, hbx⟩ := hrel
    have HS := Lib.hid (And.intro hst hbx)
    by_cases hlt : k < len
    · have hkl : k < l.length := by rw [HN.out.1]; exact hlt
      have hlk : l[k]? = some (l[k]'hkl) := List.getElem?_eq_getElem hkl
      have HX := Lib.hid (HN.out.2.1 _ (List.getElem_mem hkl))
      have HUp : Hid (DUp k (layD D0 (l.take k)) ∧ Meas conv soft seq size opn n (layD D0 (l.take k))) := Lib.hid ⟨by
        have := lay_up (l.take k) HU.out.1 (fun x hx => HN.out.2.1 x (List.mem_of_mem_take hx)) (by simp; omega)
        rwa [List.length_take, Nat.min_eq_left (by omega), Nat.zero_add] at this, lay_meas _ HU.out.2⟩
      have HSn : Hid (layD D0 (l.take (k + 1)) = stepD (layD D0 (l.take k)) (l[k]'hkl)) := Lib.hid (by rw [List.take_succ_eq_append_getElem hkl, layD_snoc])
      obtain ⟨ad, rfl, hadb, hld⟩ := st_load (m := ms) (mr := mr) HN.out.2.2 (fun x hx => (HN.out.2.1 x hx).2.2.2) hlk HM.out.2.2 HM.out.2.1
      have HLd := Lib.hid hld
      have hzr : wr.cell? (ad.add (k * ms)) = some (.int .u8 (l[k]'hkl).zone) := (hld wr fun p hp => hst.2.1.cell hp).1
      generalize l[k]'hkl = x at *
      generalize layD D0 (l.take k) = D at *
      have HZn := Lib.hid (zone_in HUp.out.1 HX.out)
      have hz0 := HX.out.1
      have hz1 := HX.out.2.1
      have hki : (k : Int) < (len : Int) := by omega
      have c0 : wr.cell? ⟨w.heap.size, 0, none⟩ = some (.int .i64 conv) := hbx.cell 0
      have c2 : wr.cell? ⟨w.heap.size, 2, none⟩ = some (.int .i64 seq) := hbx.cell 2
      obtain ⟨zn, hznI⟩ : ∃ zn : Nat, (zn : Int) = conv + x.zone % seq := ⟨(conv + x.zone % seq).toNat, by
        have := Int.emod_nonneg x.zone (show seq ≠ 0 by omega)
        omega⟩
      have hm1 := Int.emod_lt_of_pos x.zone (show 0 < seq by omega)
      have hm0 := Int.emod_nonneg x.zone (show seq ≠ 0 by omega)
      have hzw : IntKind.i64.wrap (conv + x.zone % seq) = (zn : Int) := by rw [hznI]; exact IntWalk.i64_in _ (by omega)
      have HZo : Hid (Scan.zoneOf D x = (zn : Int)) := Lib.hid (by unfold Scan.zoneOf; rw [HUp.out.2.1, HUp.out.2.2.2.1, hznI])
      have hnI := HG.out.2
      have hznn : zn < n := by omega
      have hzn0 : conv ≤ (zn : Int) := by omega
      have HQ := Lib.hid fun q : Nat => (⟨HS.out.1.on (below_draws (Below.refl _ _) q), HS.out.2⟩ : DvSt w (wr.drewN q) [w.heap.size] d D ∧ Box (wr.drewN q) w.heap.size 23 (gcS conv soft seq size opn))
      clear hst hbx hadb hld hlk hkl hm1 hm0 hznI HZn
      go_wp2_with fail
      go_quiet (fail)
      have HS3 := Lib.hid (HQ.out nq)
      clear HQ hzr c0 c2 HS hzw
      generalize wr.drewN nq = w3 at *
      go_wp2_with fail
      refine (zones_dev (T := TX w.heap.size [w.heap.size]) HS3.out.1.hT HUp.out.1.ok.ok HS3.out.1.1).mono ?_
      rintro e w4 ⟨gz, cz, rfl, hz4, hB4⟩
      rw [HUp.out.2.2.2.2.2.2] at hz4 ⊢
      have HDl : Hid (D.L[zn]? = some (D.L.getD zn (0, 0))) := Lib.hid (getD_of (by have := HUp.out.1.ok.ok.fit.1; have := HUp.out.2.1; have := HUp.out.2.2.2.1; have := HG.out.2; omega))
      have HPt : Hid ((zat D.L (zn : Int)).2 = (D.L.getD zn (0, 0)).2) := Lib.hid rfl
      have h64 : W64 (D.L.getD zn (0, 0)).2 := by
        have hf := fit_point HUp.out.1.ok.ok.fit HUp.out.1.ok.ok.ok.2.2.2.1 HDl.out
        have hsz := HUp.out.1.ok.ok.ok.2.2.2.2.1
        exact w64 (by omega) (by omega)
      have HCp : Hid (w4.cell? ⟨gz, zn * 2 + 1, none⟩ = some (.int .i64 (D.L.getD zn (0, 0)).2)) := Lib.hid ((Rd.own hz4).cell0 (zc_get1 HDl.out))
      generalize (D.L.getD zn (0, 0)).2 = pt at *
      have HGz : Hid (w3.heap.size ≤ gz ∧ gz < w4.heap.size) := Lib.hid (hz4.lt gz rfl)
      have H64 : Hid (W64 (zn : Int) ∧ W64 pt) := Lib.hid ⟨w64 (by omega) (by omega), h64⟩
      have HB4 := Lib.hid hB4
      have HCq := Lib.hid fun (W : World) (hb : Below w4.heap.size w4 W) => (show W.cell? ⟨gz, zn * 2 + 1, none⟩ = some (.int .i64 pt) from (hb.cell HGz.out.2).trans HCp.out)
      have hzI : (zn : Int) < (n : Int) := by omega
      clear hz4 hB4 HDl h64
      cases hjk : x.junk with
      | true =>
        go_wp2_with (first
          | ((with_reducible refine wpList_pg_alloc (o := ⟨some 9, .alloc _, _, _, _, _⟩) rfl rfl ?_); intro w5 x5 hB5 hs5)
          | (with_reducible refine wpList_build_page _ (o := ⟨_, .build _ _, _, _, _, _⟩) rfl rfl ?_)
          | ((with_reducible refine wpList_pg_store (o := ⟨none, .store _ (.tmp 9) _, _, _, _, _⟩) rfl _ _ rfl w4.heap.size z64 pg0 rfl rfl rfl rfl x5 ?_); go_loud (intro w6 x6 hg6 hs6; have K6 := below_stored hB5 hg6 hB5.size (Nat.le_refl _); have HB6 := Lib.hid (bthen HB4.out K6); have HB46 := Lib.hid K6; have X6 := Lib.hid x6; have hld6 := HLd.out w6 fun p hp => (bthen HS3.out.1.2.1 HB6.out).cell hp; have hj6 := hld6.2.2; have hr6 := hld6.2.1; rw [hjk] at hj6; have HL6 : Hid (w4.heap.size < w6.heap.size) := Lib.hid x6.lt; clear x5 hB5 hs5 x6 hg6 hs6 hld6 K6; generalize hbp : w4.heap.size = bp at *; have HBp := Lib.hid hbp; clear hbp))
          | fail)
        obtain ⟨pg, hpg⟩ : ∃ pg, pg = z64 := ⟨_, rfl⟩
        have HPg : Hid (pg.length = 64 ∧ octets pg) := Lib.hid (by rw [hpg]; exact ⟨rfl, z64_oct⟩)
        have HStp : Hid ((writeD D ((zn : Int), pt, pg)).2 = stepD D x) := Lib.hid (by unfold stepD pageOf; rw [if_pos hjk, HZo.out, HPt.out, hpg])
        have HP7 := X6
        rw [← hpg] at HP7
        have HB7 := HB6
        have HL7 := HL6
        have HC7 := Lib.hid (HCq.out w6 HB46.out)
        clear hj6 hr6 X6 HB6 HL6 hpg
        have HS7 : Hid (DvSt w w6 [bp, gz, w.heap.size] d D ∧ Box w6 w.heap.size 23 (gcS conv soft seq size opn)) := Lib.hid ⟨HS3.out.1.more2 HB7.out [bp, gz] (fun b hb => by
          have h1 := HGz.out.1
          have h2 := HGz.out.2
          have h3 := HL7.out
          have h4 := HBp.out
          have h5 := HB4.out.size
          rcases List.mem_cons.1 hb with rfl | hb
          · omega
          · rw [List.mem_singleton.1 hb]
            omega), HS3.out.2.on HB7.out⟩
        have HGl : Hid (gz < w6.drew.heap.size) := Lib.hid (by show gz < w6.heap.size; have h1 := HGz.out.2; have h3 := HL7.out; have h4 := HBp.out; omega)
        have HWr := Lib.hid fun (W : World) (hT : ∀ k, W.heap.size ≤ k → TX w.heap.size [bp, gz, w.heap.size] k) (hI : DevIs (TX w.heap.size [bp, gz, w.heap.size]) W d D) => (write_any (T := TX w.heap.size [bp, gz, w.heap.size]) ((zn : Int), pt, pg) HPg.out.1 H64.out hT HUp.out.1.ok.ok (by have := HUp.out.1.ok.c; omega) hI :
          Calls Try.prog 24 #[dp d, .agg #[.int .i64 (zn : Int), .int .i64 pt], .agg (bs pg).toArray] W fun x w' => x = .returned (.int .i64 (writeD D ((zn : Int), pt, pg)).1) ∧ DevIs (TX w.heap.size [bp, gz, w.heap.size]) w' d (writeD D ((zn : Int), pt, pg)).2 ∧ Fr (TX w.heap.size [bp, gz, w.heap.size]) W w')
        have HS7d : Hid (DvSt w w6.drew [bp, gz, w.heap.size] d D ∧ Box w6.drew w.heap.size 23 (gcS conv soft seq size opn)) := Lib.hid ⟨HS7.out.1.drew, HS7.out.2⟩
        have LA := Lib.hid fun (W : World) (h : Box W bp 62 (bs pg)) => big_load0 Try.prog bp 0 (bs pg) mp (by rw [bs_length, HPg.out.1, HM.out.1]) W h.range0
        refine wp_region_held_drew (S := (fun w' => w'.cell? ⟨gz, zn * 2 + 1, none⟩ = some (.int .i64 pt) ∧ Box w' bp 62 (bs pg))) (by kernel_rfl) (⟨HC7.out, HP7.out⟩) (fun hHeld => ?_)
        refine wpAnyH_take (i := 0) (oi := ⟨some 49, .move _, _, _, _, _⟩) (v := ?v158) rfl (by kernel_rfl) (by kernel_rfl) (by kernel_rfl) (fun _ _ _ h => h) (Or.inl ⟨by rfl, ?hy158⟩) (by assumption) ?rest158
        case hy158 =>
          intro w hSw

          go_simp
          try with_reducible rfl
        try simp only [Act.put, List.setIfInBounds_toArray, List.set_cons_zero, List.set_cons_succ]
        refine wpAnyH_take (i := 1) (oi := ⟨some 50, .move _, _, _, _, _⟩) (v := ?v159) rfl (by kernel_rfl) (by kernel_rfl) (by kernel_rfl) (fun _ _ _ h => h) (Or.inl ⟨by rfl, ?hy159⟩) (by assumption) ?rest159
        case hy159 =>
          intro w hSw

          go_simp
          try with_reducible rfl
        try simp only [Act.put, List.setIfInBounds_toArray, List.set_cons_zero, List.set_cons_succ]
        refine wpAnyH_take (i := 2) (oi := ⟨some 51, .move _, _, _, _, _⟩) (v := ?v160) rfl (by kernel_rfl) (by kernel_rfl) (by kernel_rfl) (fun _ _ _ h => h) (Or.inl ⟨by rfl, ?hy160⟩) (by assumption) ?rest160
        case hy160 =>
          intro w hSw

          go_simp
          try with_reducible rfl
        try simp only [Act.put, List.setIfInBounds_toArray, List.set_cons_zero, List.set_cons_succ]
        refine wpAnyH_take (i := 3) (oi := ⟨some 52, .move _, _, _, _, _⟩) (v := ?v161) rfl (by kernel_rfl) (by kernel_rfl) (by kernel_rfl) (fun _ _ _ h => h) (Or.inl ⟨by rfl, ?hy161⟩) (by assumption) ?rest161
        case hy161 =>
          intro w hSw

          go_simp
          try with_reducible rfl
        try simp only [Act.put, List.setIfInBounds_toArray, List.set_cons_zero, List.set_cons_succ]
        refine wpAnyH_take (i := 4) (oi := ⟨some 53, .indexAddr _ _ _, _, _, _, _⟩) (v := ?v162) rfl (by kernel_rfl) (by kernel_rfl) (by kernel_rfl) (fun _ _ _ h => h) (Or.inl ⟨by rfl, ?hy162⟩) (by assumption) ?rest162
        case hy162 =>
          intro w hSw

          go_simp
          try with_reducible rfl
        try simp only [Act.put, List.setIfInBounds_toArray, List.set_cons_zero, List.set_cons_succ]
        refine wpAnyH_take (i := 5) (oi := ⟨some 54, .fieldAddr _ _ _, _, _, _, _⟩) (v := ?v163) rfl (by kernel_rfl) (by kernel_rfl) (by kernel_rfl) (fun _ _ _ h => h) (Or.inl ⟨by rfl, ?hy163⟩) (by assumption) ?rest163
        case hy163 =>
          intro w hSw

          go_simp
          try with_reducible rfl
        try simp only [Act.put, List.setIfInBounds_toArray, List.set_cons_zero, List.set_cons_succ]
        refine wpAnyH_take (i := 6) (oi := ⟨some 55, .load _ _, _, _, _, _⟩) (v := ?v164) rfl (by kernel_rfl) (by kernel_rfl) (by kernel_rfl) (fun _ _ _ h => h) (Or.inl ⟨by rfl, ?hy164⟩) (by assumption) ?rest164
        case hy164 =>
          intro w hSw
          have cz := hSw.1
          go_simp
          try with_reducible rfl
        try simp only [Act.put, List.setIfInBounds_toArray, List.set_cons_zero, List.set_cons_succ]
        refine wpAnyH_take (i := 7) (oi := ⟨some 56, .build _ _, _, _, _, _⟩) (v := ?v165) rfl (by kernel_rfl) (by kernel_rfl) (by kernel_rfl) (fun _ _ _ h => h) (Or.inl ⟨by rfl, ?hy165⟩) (by assumption) ?rest165
        case hy165 =>
          intro w hSw

          go_simp
          try with_reducible rfl
        try simp only [Act.put, List.setIfInBounds_toArray, List.set_cons_zero, List.set_cons_succ]
        refine wpAnyH_take (i := 8) (oi := ⟨some 57, .load _ _, _, _, _, _⟩) (v := ?v166) rfl (by kernel_rfl) (by kernel_rfl) (by kernel_rfl) (fun _ _ _ h => h) (Or.inl ⟨by rfl, ?hy166⟩) (by assumption) ?rest166
        case hy166 =>
          intro w hSw
          have ca := LA.out _ hSw.2
          go_simp
          try with_reducible rfl
        try simp only [Act.put, List.setIfInBounds_toArray, List.set_cons_zero, List.set_cons_succ]
        refine wpAnyH_ready (rs := [9]) (by kernel_rfl) (by simp) ?_
        refine AllReadyH.cons (o := ⟨some 58, .call _, _, _, _, _⟩) rfl (fun K hK => ?_) AllReadyH.nil
        go_simp
        refine (HWr.out w6.drew HS7d.out.1.hT HS7d.out.1.1).mono ?_
        rintro e w8 ⟨rfl, hI8, hF8⟩
        have HS8 := Lib.hid (And.intro (HS7d.out.1.next hI8 hF8) (hF8.box HS7d.out.2 (by simp)))
        have hc8 : w8.cell? ⟨gz, zn * 2 + 1, none⟩ = some (.int .i64 pt) := (World.cell?_of_block (hF8.same HGl.out fun h => h.2 (by simp))).trans HC7.out
        have hp8 := hF8.box HP7.out (by simp)
        go_wp2_with fail
        clear hHeld
        refine hK.out _ _ (⟨hc8, hp8⟩) (fun hHeld => ?_)
        clear hK K
        try simp only [Act.put, List.setIfInBounds_toArray, List.set_cons_zero, List.set_cons_succ]
        refine wpAnyH_done (by kernel_rfl) ?_ _
        have HS9 : Hid (DvSt w w8 [w.heap.size] d (writeD D ((zn : Int), pt, pg)).2 ∧ Box w8 w.heap.size 23 (gcS conv soft seq size opn)) := Lib.hid ⟨HS8.out.1.less2 (by simp), HS8.out.2⟩
        clear hHeld LA HWr HS7 HS7d HS8 HC7 HP7 hc8 hp8 hI8 hF8
        go_wp2_with fail
        go_roundw
        case rel => exact ⟨k + 1, by omega, by go_num, by rw [HSn.out, ← HStp.out]; exact HS9.out⟩
        case measure => first | (simp [intOf]; done) | (simp [intOf]; omega)
      | false =>
        go_wp2_with (first
          | ((with_reducible refine wpList_pg_alloc (o := ⟨some 9, .alloc _, _, _, _, _⟩) rfl rfl ?_); intro w5 x5 hB5 hs5)
          | (with_reducible refine wpList_build_page _ (o := ⟨_, .build _ _, _, _, _, _⟩) rfl rfl ?_)
          | ((with_reducible refine wpList_pg_store (o := ⟨none, .store _ (.tmp 9) _, _, _, _, _⟩) rfl _ _ rfl w4.heap.size z64 pg0 rfl rfl rfl rfl x5 ?_); go_loud (intro w6 x6 hg6 hs6; have K6 := below_stored hB5 hg6 hB5.size (Nat.le_refl _); have HB6 := Lib.hid (bthen HB4.out K6); have HB46 := Lib.hid K6; have X6 := Lib.hid x6; have hld6 := HLd.out w6 fun p hp => (bthen HS3.out.1.2.1 HB6.out).cell hp; have hj6 := hld6.2.2; have hr6 := hld6.2.1; rw [hjk] at hj6; have HL6 : Hid (w4.heap.size < w6.heap.size) := Lib.hid x6.lt; clear x5 hB5 hs5 x6 hg6 hs6 hld6 K6; generalize hbp : w4.heap.size = bp at *; have HBp := Lib.hid hbp; clear hbp))
          | fail)
        refine (rlayA_any x.r w6 HX.out.2.2.1 HX.out.2.2.2).mono ?_
        rintro e w6b ⟨rfl, hB6b⟩
        have HPl : Hid ((layA x.r).length = 64 ∧ octets (layA x.r)) := Lib.hid ⟨layA_length HX.out.2.2.2, layA_octets HX.out.2.2.2⟩
        have X6b := Lib.hid (X6.out.on hB6b)
        have HB6b := Lib.hid (bthen HB6.out hB6b)
        have HB46b : Hid (Below bp w4 w6b) := Lib.hid (HB46.out.trans (hB6b.mono (by have := HL6.out; omega)))
        have HL6b : Hid (bp < w6b.heap.size) := Lib.hid X6b.out.lt
        have HStp0 : Hid (pageOf x = layA x.r) := Lib.hid (by unfold pageOf; rw [hjk]; rfl)
        clear hB6b X6 HB6 HL6 hj6 hr6
        generalize layA x.r = pg at *
        go_wp2_with (first
          | ((with_reducible refine wpList_pg_store (o := ⟨none, .store _ (.tmp 9) _, _, _, _, _⟩) rfl _ _ rfl bp pg z64 HPl.out.1 rfl rfl rfl X6b.out ?_); go_loud (intro w7 x7 hg7 hs7; have HB7 : Hid (Below w3.heap.size w3 w7) := Lib.hid (HB6b.out.grown hg7 HB6b.out.size fun g hg => by injection hg with hg; subst hg; have := HBp.out; have := HB4.out.size; omega); have HP7 := Lib.hid x7; have HL7 : Hid (bp < w7.heap.size) := Lib.hid x7.lt; have HC7 : Hid (w7.cell? ⟨gz, zn * 2 + 1, none⟩ = some (.int .i64 pt)) := Lib.hid (HCq.out w7 (HB46b.out.grown hg7 (by have := HL6b.out; omega) fun g hg => by injection hg with hg; omega)); clear x7 hg7 hs7))
          | fail)
        have HPg := HPl
        have HStp : Hid ((writeD D ((zn : Int), pt, pg)).2 = stepD D x) := Lib.hid (by unfold stepD; rw [HStp0.out, HZo.out, HPt.out])
        have HS7 : Hid (DvSt w w7 [bp, gz, w.heap.size] d D ∧ Box w7 w.heap.size 23 (gcS conv soft seq size opn)) := Lib.hid ⟨HS3.out.1.more2 HB7.out [bp, gz] (fun b hb => by
          have h1 := HGz.out.1
          have h2 := HGz.out.2
          have h3 := HL7.out
          have h4 := HBp.out
          have h5 := HB4.out.size
          rcases List.mem_cons.1 hb with rfl | hb
          · omega
          · rw [List.mem_singleton.1 hb]
            omega), HS3.out.2.on HB7.out⟩
        have HGl : Hid (gz < w7.drew.heap.size) := Lib.hid (by show gz < w7.heap.size; have h1 := HGz.out.2; have h3 := HL7.out; have h4 := HBp.out; omega)
        have HWr := Lib.hid fun (W : World) (hT : ∀ k, W.heap.size ≤ k → TX w.heap.size [bp, gz, w.heap.size] k) (hI : DevIs (TX w.heap.size [bp, gz, w.heap.size]) W d D) => (write_any (T := TX w.heap.size [bp, gz, w.heap.size]) ((zn : Int), pt, pg) HPg.out.1 H64.out hT HUp.out.1.ok.ok (by have := HUp.out.1.ok.c; omega) hI :
          Calls Try.prog 24 #[dp d, .agg #[.int .i64 (zn : Int), .int .i64 pt], .agg (bs pg).toArray] W fun x w' => x = .returned (.int .i64 (writeD D ((zn : Int), pt, pg)).1) ∧ DevIs (TX w.heap.size [bp, gz, w.heap.size]) w' d (writeD D ((zn : Int), pt, pg)).2 ∧ Fr (TX w.heap.size [bp, gz, w.heap.size]) W w')
        have HS7d : Hid (DvSt w w7.drew [bp, gz, w.heap.size] d D ∧ Box w7.drew w.heap.size 23 (gcS conv soft seq size opn)) := Lib.hid ⟨HS7.out.1.drew, HS7.out.2⟩
        have LA := Lib.hid fun (W : World) (h : Box W bp 62 (bs pg)) => big_load0 Try.prog bp 0 (bs pg) mp (by rw [bs_length, HPg.out.1, HM.out.1]) W h.range0
        refine wp_region_held_drew (S := (fun w' => w'.cell? ⟨gz, zn * 2 + 1, none⟩ = some (.int .i64 pt) ∧ Box w' bp 62 (bs pg))) (by kernel_rfl) (⟨HC7.out, HP7.out⟩) (fun hHeld => ?_)
        refine wpAnyH_take (i := 0) (oi := ⟨some 49, .move _, _, _, _, _⟩) (v := ?v167) rfl (by kernel_rfl) (by kernel_rfl) (by kernel_rfl) (fun _ _ _ h => h) (Or.inl ⟨by rfl, ?hy167⟩) (by assumption) ?rest167
        case hy167 =>
          intro w hSw

          go_simp
          try with_reducible rfl
        try simp only [Act.put, List.setIfInBounds_toArray, List.set_cons_zero, List.set_cons_succ]
        refine wpAnyH_take (i := 1) (oi := ⟨some 50, .move _, _, _, _, _⟩) (v := ?v168) rfl (by kernel_rfl) (by kernel_rfl) (by kernel_rfl) (fun _ _ _ h => h) (Or.inl ⟨by rfl, ?hy168⟩) (by assumption) ?rest168
        case hy168 =>
          intro w hSw

          go_simp
          try with_reducible rfl
        try simp only [Act.put, List.setIfInBounds_toArray, List.set_cons_zero, List.set_cons_succ]
        refine wpAnyH_take (i := 2) (oi := ⟨some 51, .move _, _, _, _, _⟩) (v := ?v169) rfl (by kernel_rfl) (by kernel_rfl) (by kernel_rfl) (fun _ _ _ h => h) (Or.inl ⟨by rfl, ?hy169⟩) (by assumption) ?rest169
        case hy169 =>
          intro w hSw

          go_simp
          try with_reducible rfl
        try simp only [Act.put, List.setIfInBounds_toArray, List.set_cons_zero, List.set_cons_succ]
        refine wpAnyH_take (i := 3) (oi := ⟨some 52, .move _, _, _, _, _⟩) (v := ?v170) rfl (by kernel_rfl) (by kernel_rfl) (by kernel_rfl) (fun _ _ _ h => h) (Or.inl ⟨by rfl, ?hy170⟩) (by assumption) ?rest170
        case hy170 =>
          intro w hSw

          go_simp
          try with_reducible rfl
        try simp only [Act.put, List.setIfInBounds_toArray, List.set_cons_zero, List.set_cons_succ]
        refine wpAnyH_take (i := 4) (oi := ⟨some 53, .indexAddr _ _ _, _, _, _, _⟩) (v := ?v171) rfl (by kernel_rfl) (by kernel_rfl) (by kernel_rfl) (fun _ _ _ h => h) (Or.inl ⟨by rfl, ?hy171⟩) (by assumption) ?rest171
        case hy171 =>
          intro w hSw

          go_simp
          try with_reducible rfl
        try simp only [Act.put, List.setIfInBounds_toArray, List.set_cons_zero, List.set_cons_succ]
        refine wpAnyH_take (i := 5) (oi := ⟨some 54, .fieldAddr _ _ _, _, _, _, _⟩) (v := ?v172) rfl (by kernel_rfl) (by kernel_rfl) (by kernel_rfl) (fun _ _ _ h => h) (Or.inl ⟨by rfl, ?hy172⟩) (by assumption) ?rest172
        case hy172 =>
          intro w hSw

          go_simp
          try with_reducible rfl
        try simp only [Act.put, List.setIfInBounds_toArray, List.set_cons_zero, List.set_cons_succ]
        refine wpAnyH_take (i := 6) (oi := ⟨some 55, .load _ _, _, _, _, _⟩) (v := ?v173) rfl (by kernel_rfl) (by kernel_rfl) (by kernel_rfl) (fun _ _ _ h => h) (Or.inl ⟨by rfl, ?hy173⟩) (by assumption) ?rest173
        case hy173 =>
          intro w hSw
          have cz := hSw.1
          go_simp
          try with_reducible rfl
        try simp only [Act.put, List.setIfInBounds_toArray, List.set_cons_zero, List.set_cons_succ]
        refine wpAnyH_take (i := 7) (oi := ⟨some 56, .build _ _, _, _, _, _⟩) (v := ?v174) rfl (by kernel_rfl) (by kernel_rfl) (by kernel_rfl) (fun _ _ _ h => h) (Or.inl ⟨by rfl, ?hy174⟩) (by assumption) ?rest174
        case hy174 =>
          intro w hSw

          go_simp
          try with_reducible rfl
        try simp only [Act.put, List.setIfInBounds_toArray, List.set_cons_zero, List.set_cons_succ]
        refine wpAnyH_take (i := 8) (oi := ⟨some 57, .load _ _, _, _, _, _⟩) (v := ?v175) rfl (by kernel_rfl) (by kernel_rfl) (by kernel_rfl) (fun _ _ _ h => h) (Or.inl ⟨by rfl, ?hy175⟩) (by assumption) ?rest175
        case hy175 =>
          intro w hSw
          have ca := LA.out _ hSw.2
          go_simp
          try with_reducible rfl
        try simp only [Act.put, List.setIfInBounds_toArray, List.set_cons_zero, List.set_cons_succ]
        refine wpAnyH_ready (rs := [9]) (by kernel_rfl) (by simp) ?_
        refine AllReadyH.cons (o := ⟨some 58, .call _, _, _, _, _⟩) rfl (fun K hK => ?_) AllReadyH.nil
        go_simp
        refine (HWr.out w7.drew HS7d.out.1.hT HS7d.out.1.1).mono ?_
        rintro e w8 ⟨rfl, hI8, hF8⟩
        have HS8 := Lib.hid (And.intro (HS7d.out.1.next hI8 hF8) (hF8.box HS7d.out.2 (by simp)))
        have hc8 : w8.cell? ⟨gz, zn * 2 + 1, none⟩ = some (.int .i64 pt) := (World.cell?_of_block (hF8.same HGl.out fun h => h.2 (by simp))).trans HC7.out
        have hp8 := hF8.box HP7.out (by simp)
        go_wp2_with fail
        clear hHeld
        refine hK.out _ _ (⟨hc8, hp8⟩) (fun hHeld => ?_)
        clear hK K
        try simp only [Act.put, List.setIfInBounds_toArray, List.set_cons_zero, List.set_cons_succ]
        refine wpAnyH_done (by kernel_rfl) ?_ _
        have HS9 : Hid (DvSt w w8 [w.heap.size] d (writeD D ((zn : Int), pt, pg)).2 ∧ Box w8 w.heap.size 23 (gcS conv soft seq size opn)) := Lib.hid ⟨HS8.out.1.less2 (by simp), HS8.out.2⟩
        clear hHeld LA HWr HS7 HS7d HS8 HC7 HP7 hc8 hp8 hI8 hF8
        go_wp2_with fail
        go_roundw
        case rel => exact ⟨k + 1, by omega, by go_num, by rw [HSn.out, ← HStp.out]; exact HS9.out⟩
        case measure => first | (simp [intOf]; done) | (simp [intOf]; omega)
    · obtain rfl : len = k := by omega
      have HD : Hid (layD D0 (l.take len) = layD D0 l) := Lib.hid (by rw [List.take_of_length_le (by rw [HN.out.1]; exact Nat.le_refl _)])
      have HI := Lib.hid hst
      clear hst hbx
      go_wp2
      go_ret
      exact ⟨d, rfl, by rw [← HD.out]; exact HI.out.1.shrink fun k _ h => h.1, HI.out.2.1⟩
end Go.Proofs.Ythgjlofebicpiaa

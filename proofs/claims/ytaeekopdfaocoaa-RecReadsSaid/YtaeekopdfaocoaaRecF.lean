/-
  'awake' of layer 6 answers true.
-/
import Derived.Test.YtaeekopdfaocoaaRecE
namespace Go.Proofs.Ytaeekopdfaocoaa
open Go.RowKit Word Crc Rec
set_option linter.unusedVariables false

theorem Box.on {w w' : World} {b : Nat} {T : TypeId} {cs : List Value} (h : Box w b T cs) (hb : Below w.heap.size w w') : Box w' b T cs := h.below hb h.lt
/-- an array or a struct built of parts, what comes of it being known -/
theorem wpList_build_known {P : Program} {w : World} {ops : Array Oper} {rest : List Oper} {o : Oper} {a : Act} {Q : Exit → Act → World → Prop} (hgd : o.guard = none) (t : TypeId) (ps : Array (Nat × Operand)) (vs : Array (Nat × Value)) (ho : o.op = .build t ps) (hv : (ps.map fun (i, x) => (i, a.eval x)) = vs) (cs : List Value) (hb : ∀ w, (Instr.build t vs).run P w = .ok (.agg cs.toArray) w)
    (h : wpList P ops Q rest (a.put o.dst (.agg cs.toArray)) w) : wpList P ops Q (o :: rest) a w := by
  refine wpList_plain hgd fun K hK => ?_
  unfold Oper.wp execOp
  simp only [ho, Sem.run_bind]
  have e : (ps.map fun x => (x.1, a.eval x.2)) = vs := hv
  rw [e, hb w]
  simp only [Result.andThen_ok]
  exact hK _ _ h

abbrev recA : Rc := ⟨1, 3, 9, 5, 0, 7 :: List.replicate 31 0⟩
theorem recA_ok : Ok recA := by decide
theorem recA_in : In recA := ⟨by decide, by unfold octets; decide⟩
theorem recA_lay : (layL recA).getD 0 0 = 1 ∧ (layL recA).getD 1 0 = 3 ∧ (layL recA).getD 9 0 = 9 ∧ (layL recA).getD 17 0 = 5 ∧ (layL recA).getD 25 0 = 7 := by decide +kernel
theorem pg0_right : rightB pg0 = false := by decide +kernel
theorem read_pg0 : readS pg0 = (rc0, 8) := by unfold readS; rw [if_pos pg0_right]
theorem data7_build (w : World) : (Instr.build 23 #[(0, .int .u8 7)]).run Try.prog w = .ok (.agg (bs (7 :: List.replicate 31 0)).toArray) w := by
  unfold Instr.build
  simp only [Sem.run_bind, zero_data w, Result.andThen, run_underlying Try.underlying23, size_u8]
  rfl
set_option maxRecDepth 100000 in
theorem recA_build (w : World) : (Instr.build 25 #[(0, .int .i64 1), (1, .int .i64 3), (2, .int .i64 9), (3, .int .i64 5), (5, .agg (bs (7 :: List.replicate 31 0)).toArray)]).run Try.prog w = .ok (.agg (rcs recA).toArray) w := by
  have hp := rec_places w
  simp only [Program.fieldsOf, Try.underlying25] at hp
  unfold Instr.build
  simp only [Sem.run_bind, zero_rec w, Result.andThen, run_underlying Try.underlying25, hp]
  rfl
set_option maxRecDepth 100000 in
set_option maxHeartbeats 2000000 in
theorem awake6_any (w : World) :
    Calls Try.prog 8 #[] w fun e w' => e = .returned (.bool true) ∧ Below w.heap.size w w' := by
  obtain ⟨m, hm, hsz⟩ := big_size (P := Try.prog) (t := 29) (s := 64) (by kernel_rfl)
  obtain ⟨mr, hmr, hszr⟩ := big_size (P := Try.prog) (t := 25) (s := 37) (by kernel_rfl)
  have hm0 : ¬ m = 0 := by omega
  have hmr0 : ¬ mr = 0 := by omega
  have HM := Lib.hid (And.intro hm hmr)
  have HLl := Lib.hid (layL_length recA recA_in.1)
  have HLay := Lib.hid fun w' => lay_any recA w' recA_ok recA_in
  have HRead := Lib.hid fun w' => read_any (layL recA) w' HLl.out (layL_octets recA_ok recA_in.2)
  rw [read_lay recA_ok recA_in] at HRead
  have HRead0 := Lib.hid fun w' => read_any pg0 w' rfl (by unfold octets; decide)
  rw [read_pg0] at HRead0
  have HQ := Lib.hid fun w' => recright_any recA w' recA_in
  rw [show okB recA = true from by decide] at HQ
  have HQ0 := Lib.hid fun w' => recright_any rc0 w' rc0_in
  rw [show okB rc0 = false from by decide] at HQ0
  have HC := Lib.hid recA_lay
  clear hm hmr
  generalize hRA : recA = ra at *
  have HRA := Lib.hid hRA
  clear hRA
  have HI : Hid (In ra) := Lib.hid (HRA.out ▸ recA_in)
  generalize layL ra = La at *
  go_enter Try.func8, Try.ntmps8
  go_wp2_with (first
    | (with_reducible refine wpList_build_known (o := ⟨some 7, .build _ _, _, _, _, _⟩) rfl _ _ _ rfl rfl _ data7_build ?_)
    | (with_reducible refine wpList_build_known (o := ⟨some 8, .build _ _, _, _, _, _⟩) rfl _ _ _ rfl rfl _ recA_build ?_)
    | ((with_reducible refine wpList_rc_alloc (o := ⟨some 1, .alloc _, _, _, _, _⟩) rfl rfl ?_); intro w1 x1 hB1 _)
    | ((with_reducible refine wpList_rc_store (o := ⟨none, .store _ _ _, _, _, _, _⟩) rfl _ _ rfl w.heap.size recA rc0 recA_in rc0_in rfl rfl x1 ?_); intro w2 x2 hg2 _; rw [HRA.out] at x2; have l2 := big_load0 Try.prog w.heap.size 0 (rcs ra) mr (by rw [rcs_length HI.out.1, HM.out.2]) _ x2.range0)
    | fail)
  have HB2 := Lib.hid (below_stored hB1 hg2 hB1.size (Nat.le_refl _))
  have HX2 := Lib.hid x2
  clear x1 hB1 hg2 x2
  refine (HLay.out _).mono ?_
  rintro e w3 ⟨rfl, hb3⟩
  have HB3 := Lib.hid (bthen HB2.out hb3)
  have HX3 := Lib.hid (HX2.out.on hb3)
  clear l2 HB2 HX2 hb3 HLay
  -- the sector
  go_wp2_with (first
    | ((with_reducible refine wpList_pg_alloc (o := ⟨some 2, .alloc _, _, _, _, _⟩) rfl rfl ?_); intro w4 x4 hB4 _)
    | ((with_reducible refine wpList_pg_store (o := ⟨none, .store _ _ _, _, _, _, _⟩) rfl _ _ rfl w3.heap.size La pg0 HLl.out rfl rfl rfl x4 ?_); intro w5 x5 hg5 _; have l5 := big_load0 Try.prog w3.heap.size 0 (bs La) m (by rw [bs_length, HLl.out, HM.out.1]) _ x5.range0)
    | fail)
  have h35 := below_stored hB4 hg5 hB4.size (Nat.le_refl _)
  have HB5 := Lib.hid (bthen HB3.out h35)
  have HX5 := Lib.hid (And.intro (HX3.out.on h35) x5)
  clear x4 hB4 hg5 x5 h35 HB3 HX3
  generalize w3.heap.size = b5 at *
  refine (HRead.out _).mono ?_
  rintro e w6 ⟨rfl, hb6⟩
  have HB6 := Lib.hid (bthen HB5.out hb6)
  have HX6 := Lib.hid (And.intro (HX5.out.1.on hb6) (HX5.out.2.on hb6))
  clear HB5 HX5 l5 hb6 HRead
  -- what was read
  go_wp2_with (first
    | ((with_reducible refine wpList_rc_alloc (o := ⟨some 3, .alloc _, _, _, _, _⟩) rfl rfl ?_); intro w7 x7 hB7 _)
    | ((with_reducible refine wpList_rc_store (o := ⟨none, .store _ _ _, _, _, _, _⟩) rfl _ _ rfl w6.heap.size ra rc0 HI.out rc0_in rfl rfl x7 ?_); intro w8 x8 hg8 _)
    | (with_reducible refine wpList_build_zero _ (o := ⟨some 17, .build _ _, _, _, _, _⟩) rfl _ rfl (bs pg0) pg_build ?_)
    | fail)
  have h68 := below_stored hB7 hg8 hB7.size (Nat.le_refl _)
  have HB8 := Lib.hid (bthen HB6.out h68)
  have HX8 := Lib.hid (And.intro (HX6.out.1.on h68) (And.intro (HX6.out.2.on h68) x8))
  clear x7 hB7 hg8 x8 h68 HB6 HX6
  generalize w6.heap.size = b8 at *
  refine (HRead0.out _).mono ?_
  rintro e w9 ⟨rfl, hb9⟩
  have HB9 := Lib.hid (bthen HB8.out hb9)
  have HX9 := Lib.hid (And.intro (HX8.out.1.on hb9) (And.intro (HX8.out.2.1.on hb9) (HX8.out.2.2.on hb9)))
  clear HB8 HX8 hb9 HRead0
  go_wp2_with (first
    | ((with_reducible refine wpList_rc_alloc (o := ⟨some 5, .alloc _, _, _, _, _⟩) rfl rfl ?_); intro w10 x10 hB10 _)
    | ((with_reducible refine wpList_rc_store (o := ⟨none, .store _ _ _, _, _, _, _⟩) rfl _ _ rfl w9.heap.size rc0 rc0 rc0_in rc0_in rfl rfl x10 ?_); intro w11 x11 hg11 _; have l11 := big_load0 Try.prog w.heap.size 0 (rcs ra) mr (by rw [rcs_length HI.out.1, HM.out.2]) w11 (HX9.out.1.on (below_stored hB10 hg11 hB10.size (Nat.le_refl _))).range0)
    | fail)
  have h911 := below_stored hB10 hg11 hB10.size (Nat.le_refl _)
  have HB11 := Lib.hid (bthen HB9.out h911)
  have HX11 := Lib.hid (And.intro (HX9.out.1.on h911) (And.intro (HX9.out.2.1.on h911) (HX9.out.2.2.on h911)))
  clear x10 hB10 hg11 x11 h911 HB9 HX9
  generalize w9.heap.size = b11 at *
  refine (HQ.out _).mono ?_
  rintro e w12 ⟨rfl, hb12⟩
  have HB12 := Lib.hid (bthen HB11.out hb12)
  obtain ⟨y0, y1, y2⟩ := And.intro (HX11.out.1.on hb12) (And.intro (HX11.out.2.1.on hb12) (HX11.out.2.2.on hb12))
  have l0 := big_load0 Try.prog w.heap.size 0 (rcs ra) mr (by rw [rcs_length HI.out.1, HM.out.2]) _ y0.range0
  have l2 := big_load0 Try.prog b8 0 (rcs ra) mr (by rw [rcs_length HI.out.1, HM.out.2]) _ y2.range0
  have cell : ∀ k v, k < 64 → La.getD k 0 = v → w12.cell? ⟨b5, k, none⟩ = some (.int .u8 v) := fun k v hk hv => hv ▸ (y1.cell k).trans (bs_get (by rw [HLl.out]; exact hk))
  have p0 := cell 0 1 (by decide) HC.out.1
  have p1 := cell 1 3 (by decide) HC.out.2.1
  have p9 := cell 9 9 (by decide) HC.out.2.2.1
  have p17 := cell 17 5 (by decide) HC.out.2.2.2.1
  have p25 := cell 25 7 (by decide) HC.out.2.2.2.2
  have hq := fun w' => equal_rec w' ra ra HI.out HI.out
  rw [(rcEq_iff ra ra).2 rfl] at hq
  have hgd := guard_rec
  clear HB11 HX11 hb12 HQ cell l11 y0 y1 y2 HLl HC
  generalize rcs ra = R at *
  go_wp2_with fail
  refine (HQ0.out _).mono ?_
  rintro e w13 ⟨rfl, hb13⟩
  have HB13 := Lib.hid (bthen HB12.out hb13)
  clear hb13 HB12
  go_wp2
  go_ret
  exact ⟨rfl, HB13.out⟩
end Go.Proofs.Ytaeekopdfaocoaa

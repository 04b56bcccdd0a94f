/-
  'awake' of layer 7 answers true; a leaf as an argument opened.
-/
import Derived.Test.YtlpkmggboihdjaaLfE
import Derived.Test.YtlpkmggboihdjaaOpen
namespace Go.Proofs.Ytlpkmggboihdjaa
open Go.RowKit Word Crc Leaf
set_option linter.unusedVariables false

set_option maxRecDepth 100000 in
theorem open_leaf {H : Type} {enc : TypeId × Value → H} {w : World} {base b0 : Nat} {r : Reach} {sp : Nat → Bool} {held : Bool} {v : Value} {d : DataW H} {ps : List MemPlace}
    (hu : Value.okWide Try.prog w r b0 24 v) (h : DataW.Trod enc Try.prog w base sp held 24 v d ps) : ∃ x : Lf, v = .agg (lcs x).toArray ∧ In x := by
  obtain ⟨cs, rfl, hs⟩ := has_agg (s := .pair 1 (.int .i64) (.pair 1 (.int .i64) (.pair 10 (.rep 10 1 (.int .i64)) .nil))) 3 (by kernel_rfl) h hu (.inl ⟨_, Try.underlying24⟩)
  obtain ⟨_, _, rfl, _, ⟨k, rfl, _⟩, _, _, rfl, _, ⟨e, rfl, _⟩, _, _, rfl, _, hd, rfl⟩ := hs
  obtain ⟨ws, h1, rfl, h3⟩ := has_ints hd
  refine ⟨⟨k, e, ws⟩, ?_, h1⟩
  simp [lcs, is]

abbrev lfA : Lf := ⟨3, 2, 258 :: List.replicate 9 0⟩
theorem lfA_ok : Ok lfA := by decide
theorem lfA_in : In lfA := by simp [In]
theorem lfA_lay : (layL lfA).getD 0 0 = 128 ∧ (layL lfA).getD 1 0 = 3 ∧ (layL lfA).getD 9 0 = 2 ∧ (layL lfA).getD 13 0 = 2 ∧ (layL lfA).getD 14 0 = 1 := by decide +kernel
theorem lfread_pg0 : readS pg0 = (lf0, 8) := by unfold readS; rw [if_pos (show rightB pg0 = false by decide +kernel)]
theorem lfA_build (w : World) : (Instr.build 24 #[(0, .int .i64 3), (1, .int .i64 2), (2, .agg (is (258 :: List.replicate 9 0)).toArray)]).run Try.prog w = .ok (.agg (lcs lfA).toArray) w := run_build_leaf3 w lfA lfA_in
set_option maxRecDepth 100000 in
set_option maxHeartbeats 2000000 in
theorem awake7_any (w : World) :
    Calls Try.prog 8 #[] w fun e w' => e = .returned (.bool true) ∧ Below w.heap.size w w' := by
  obtain ⟨m, hm, hsz⟩ := big_size (P := Try.prog) (t := 28) (s := 64) (by kernel_rfl)
  obtain ⟨mr, hmr, hszr⟩ := big_size (P := Try.prog) (t := 24) (s := 12) (by kernel_rfl)
  have hm0 : ¬ m = 0 := by omega
  have hmr0 : ¬ mr = 0 := by omega
  have HM := Lib.hid (And.intro hm hmr)
  have HLl := Lib.hid (layL_length lfA lfA_in)
  have HLay := Lib.hid fun w' => lflay_any lfA w' lfA_ok lfA_in
  have HRead := Lib.hid fun w' => lfread_any (layL lfA) w' HLl.out (layL_octets lfA)
  rw [read_lay lfA_ok lfA_in] at HRead
  have HRead0 := Lib.hid fun w' => lfread_any pg0 w' rfl (by unfold octets; decide)
  rw [lfread_pg0] at HRead0
  have HQ := Lib.hid fun w' => lfright_any lfA w' lfA_in
  rw [show okB lfA = true from by decide] at HQ
  have HC := Lib.hid lfA_lay
  clear hm hmr
  generalize hRA : lfA = ra at *
  have HRA := Lib.hid hRA
  clear hRA
  have HI : Hid (In ra) := Lib.hid (HRA.out ▸ lfA_in)
  generalize layL ra = La at *
  go_enter Try.func8, Try.ntmps8
  go_wp2_with (first
    | (with_reducible refine wpList_build_known (o := ⟨some 7, .build _ _, _, _, _, _⟩) rfl _ _ _ rfl rfl _ (fun w => run_build_ten1 w 258) ?_)
    | (with_reducible refine wpList_build_known (o := ⟨some 8, .build _ _, _, _, _, _⟩) rfl _ _ _ rfl rfl _ lfA_build ?_)
    | ((with_reducible refine wpList_lf_alloc (o := ⟨some 1, .alloc _, _, _, _, _⟩) rfl rfl ?_); intro w1 x1 hB1 _)
    | ((with_reducible refine wpList_lf_store (o := ⟨none, .store _ _ _, _, _, _, _⟩) rfl _ _ rfl w.heap.size lfA lf0 lfA_in lf0_in rfl rfl x1 ?_); intro w2 x2 hg2 _; rw [HRA.out] at x2; have l2 := big_load0 Try.prog w.heap.size 0 (lcs ra) mr (by rw [lcs_length HI.out, HM.out.2]) _ x2.range0)
    | fail)
  have HB2 := Lib.hid (below_stored hB1 hg2 hB1.size (Nat.le_refl _))
  have HX2 := Lib.hid x2
  clear x1 hB1 hg2 x2
  refine (HLay.out _).mono ?_
  rintro e w3 ⟨rfl, hb3⟩
  have HB3 := Lib.hid (bthen HB2.out hb3)
  have HX3 := Lib.hid (HX2.out.on hb3)
  clear l2 HB2 HX2 hb3 HLay
  -- the sector
  go_wp2_with (first
    | ((with_reducible refine wpList_pg_alloc (o := ⟨some 2, .alloc _, _, _, _, _⟩) rfl rfl ?_); intro w4 x4 hB4 _)
    | ((with_reducible refine wpList_pg_store (o := ⟨none, .store _ _ _, _, _, _, _⟩) rfl _ _ rfl w3.heap.size La pg0 HLl.out rfl rfl rfl x4 ?_); intro w5 x5 hg5 _; have l5 := big_load0 Try.prog w3.heap.size 0 (bs La) m (by rw [bs_length, HLl.out, HM.out.1]) _ x5.range0)
    | fail)
  have h35 := below_stored hB4 hg5 hB4.size (Nat.le_refl _)
  have HB5 := Lib.hid (bthen HB3.out h35)
  have HX5 := Lib.hid (And.intro (HX3.out.on h35) x5)
  clear x4 hB4 hg5 x5 h35 HB3 HX3
  generalize w3.heap.size = b5 at *
  refine (HRead.out _).mono ?_
  rintro e w6 ⟨rfl, hb6⟩
  have HB6 := Lib.hid (bthen HB5.out hb6)
  have HX6 := Lib.hid (And.intro (HX5.out.1.on hb6) (HX5.out.2.on hb6))
  clear HB5 HX5 l5 hb6 HRead
  -- what was read
  go_wp2_with (first
    | ((with_reducible refine wpList_lf_alloc (o := ⟨some 3, .alloc _, _, _, _, _⟩) rfl rfl ?_); intro w7 x7 hB7 _)
    | ((with_reducible refine wpList_lf_store (o := ⟨none, .store _ _ _, _, _, _, _⟩) rfl _ _ rfl w6.heap.size ra lf0 HI.out lf0_in rfl rfl x7 ?_); intro w8 x8 hg8 _)
    | (with_reducible refine wpList_build_zero _ (o := ⟨some 17, .build _ _, _, _, _, _⟩) rfl _ rfl (bs pg0) pg_build ?_)
    | fail)
  have h68 := below_stored hB7 hg8 hB7.size (Nat.le_refl _)
  have HB8 := Lib.hid (bthen HB6.out h68)
  have HX8 := Lib.hid (And.intro (HX6.out.1.on h68) (And.intro (HX6.out.2.on h68) x8))
  clear x7 hB7 hg8 x8 h68 HB6 HX6
  generalize w6.heap.size = b8 at *
  refine (HRead0.out _).mono ?_
  rintro e w9 ⟨rfl, hb9⟩
  have HB9 := Lib.hid (bthen HB8.out hb9)
  have HX9 := Lib.hid (And.intro (HX8.out.1.on hb9) (And.intro (HX8.out.2.1.on hb9) (HX8.out.2.2.on hb9)))
  clear HB8 HX8 hb9 HRead0
  go_wp2_with (first
    | ((with_reducible refine wpList_lf_alloc (o := ⟨some 5, .alloc _, _, _, _, _⟩) rfl rfl ?_); intro w10 x10 hB10 _)
    | ((with_reducible refine wpList_lf_store (o := ⟨none, .store _ _ _, _, _, _, _⟩) rfl _ _ rfl w9.heap.size lf0 lf0 lf0_in lf0_in rfl rfl x10 ?_); intro w11 x11 hg11 _; have l11 := big_load0 Try.prog w.heap.size 0 (lcs ra) mr (by rw [lcs_length HI.out, HM.out.2]) w11 (HX9.out.1.on (below_stored hB10 hg11 hB10.size (Nat.le_refl _))).range0)
    | fail)
  have h911 := below_stored hB10 hg11 hB10.size (Nat.le_refl _)
  have HB11 := Lib.hid (bthen HB9.out h911)
  have HX11 := Lib.hid (And.intro (HX9.out.1.on h911) (And.intro (HX9.out.2.1.on h911) (HX9.out.2.2.on h911)))
  clear x10 hB10 hg11 x11 h911 HB9 HX9
  generalize w9.heap.size = b11 at *
  refine (HQ.out _).mono ?_
  rintro e w12 ⟨rfl, hb12⟩
  have HB12 := Lib.hid (bthen HB11.out hb12)
  obtain ⟨y0, y1, y2⟩ := And.intro (HX11.out.1.on hb12) (And.intro (HX11.out.2.1.on hb12) (HX11.out.2.2.on hb12))
  have l0 := big_load0 Try.prog w.heap.size 0 (lcs ra) mr (by rw [lcs_length HI.out, HM.out.2]) _ y0.range0
  have l2 := big_load0 Try.prog b8 0 (lcs ra) mr (by rw [lcs_length HI.out, HM.out.2]) _ y2.range0
  have cell : ∀ k v, k < 64 → La.getD k 0 = v → w12.cell? ⟨b5, k, none⟩ = some (.int .u8 v) := fun k v hk hv => hv ▸ (y1.cell k).trans (bs_get (by rw [HLl.out]; exact hk))
  have p0 := cell 0 128 (by decide) HC.out.1
  have p1 := cell 1 3 (by decide) HC.out.2.1
  have p9 := cell 9 2 (by decide) HC.out.2.2.1
  have p13 := cell 13 2 (by decide) HC.out.2.2.2.1
  have p14 := cell 14 1 (by decide) HC.out.2.2.2.2
  have hq := fun w' => equal_leaf w' ra ra HI.out HI.out
  rw [(lfEq_iff ra ra).2 rfl] at hq
  have hgd := guard_leaf
  clear HB11 HX11 hb12 HQ cell l11 y0 y1 y2 HLl HC
  generalize lcs ra = R at *
  go_wp2
  go_ret
  exact ⟨rfl, HB12.out⟩
end Go.Proofs.Ytlpkmggboihdjaa

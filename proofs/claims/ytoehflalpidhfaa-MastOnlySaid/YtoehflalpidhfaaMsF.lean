/-
  'awake' of layer 8 answers true; masts and measures as arguments opened; many variables side by side.
-/
import Derived.Test.YtoehflalpidhfaaMsE
import Derived.Test.YtoehflalpidhfaaOpen
import Derived.Test.YtoehflalpidhfaaGeomO
namespace Go.Proofs.Ytoehflalpidhfaa
open Go.RowKit Word Crc Mast
set_option linter.unusedVariables false

set_option maxRecDepth 100000 in
theorem open_mast {H : Type} {enc : TypeId × Value → H} {w : World} {base b0 : Nat} {r : Reach} {sp : Nat → Bool} {held : Bool} {v : Value} {d : DataW H} {ps : List MemPlace}
    (hu : Value.okWide Try.prog w r b0 24 v) (h : DataW.Trod enc Try.prog w base sp held 24 v d ps) : ∃ x : Mst, v = .agg (mcs x).toArray ∧ In x := by
  obtain ⟨cs, rfl, hs⟩ := has_agg (s := .pair 1 .bool (.pair 1 (.int .i64) (.pair 1 (.int .i64) (.pair 1 (.int .i64) (.pair 1 (.int .i64) (.pair 1 (.int .u32) .nil)))))) 3 (by kernel_rfl) h hu (.inl ⟨_, Try.underlying24⟩)
  obtain ⟨_, _, rfl, _, ⟨f, rfl⟩, _, _, rfl, _, ⟨g, rfl, _⟩, _, _, rfl, _, ⟨e, rfl, _⟩, _, _, rfl, _, ⟨s, rfl, _⟩, _, _, rfl, _, ⟨p, rfl, _⟩, _, _, rfl, _, ⟨u, rfl, hw⟩, rfl⟩ := hs
  refine ⟨⟨f, g, e, s, p, u⟩, rfl, ?_⟩
  simp [Lit.wf, IntKind.min, IntKind.max, IntKind.signed, IntKind.bits] at hw
  exact ⟨by show 0 ≤ u; omega, by show u < 4294967296; omega⟩
theorem open_ge {H : Type} {enc : TypeId × Value → H} {w : World} {base b0 : Nat} {r : Reach} {sp : Nat → Bool} {held : Bool} {v : Value} {d : DataW H} {ps : List MemPlace}
    (hu : Value.okWide Try.prog w r b0 38 v) (h : DataW.Trod enc Try.prog w base sp held 38 v d ps) : ∃ x : Ge, v = .agg (gcs x).toArray ∧ x.seq < 9223372036854775808 := by
  obtain ⟨conv, soft, seq, size, opn, rfl, hs⟩ := open_geo hu h
  exact ⟨⟨conv, soft, seq, size, opn⟩, rfl, hs⟩

/-- variables side by side -/
def Bxs (w W : World) (l : List (Nat × TypeId × List Value)) : Prop := (∀ x ∈ l, Box W x.1 x.2.1 x.2.2) ∧ Below w.heap.size w W
section
variable {w W W' W2 : World} {l : List (Nat × TypeId × List Value)}
theorem Bxs.nil (w : World) : Bxs w w [] := ⟨fun x hx => by simp at hx, Below.refl _ _⟩
theorem Bxs.on (h : Bxs w W l) (hb : Below W.heap.size W W') : Bxs w W' l := ⟨fun x hx => (h.1 x hx).on hb, bthen h.2 hb⟩
theorem Bxs.drew (h : Bxs w W l) : Bxs w W.drew l := ⟨h.1, h.2.drew⟩
theorem Bxs.add (h : Bxs w W l) {T : TypeId} {cs : List Value} (hB : Below W.heap.size W W') (x : Box W' W.heap.size T cs) : Bxs w W' ((W.heap.size, T, cs) :: l) := by
  refine ⟨fun y hy => ?_, bthen h.2 hB⟩
  rcases List.mem_cons.1 hy with rfl | hy
  · exact x
  · exact (h.1 y hy).on hB
theorem Bxs.made (h : Bxs w W l) {T : TypeId} {cs : List Value} (hB : Below W.heap.size W W') (hg : W'.grownBy W2 (some W.heap.size)) (x : Box W2 W.heap.size T cs) : Bxs w W2 ((W.heap.size, T, cs) :: l) := h.add (below_stored hB hg hB.size (Nat.le_refl _)) x
theorem Bxs.get (h : Bxs w W l) {b : Nat} {T : TypeId} {cs : List Value} (hm : (b, T, cs) ∈ l) : Box W b T cs := h.1 _ hm
theorem Bxs.head {b : Nat} {T : TypeId} {cs : List Value} (h : Bxs w W ((b, T, cs) :: l)) : Box W b T cs := h.get (.head _)
theorem Bxs.tail {a : Nat × TypeId × List Value} (h : Bxs w W (a :: l)) : Bxs w W l := ⟨fun x hx => h.1 x (.tail _ hx), h.2⟩
theorem Bxs.below (h : Bxs w W l) : Below w.heap.size w W := h.2
end

abbrev msA : Mst := ⟨true, 1, 2, 3, 4, 5⟩
abbrev geA : Ge := ⟨2, 8, 6, 16, 3⟩
theorem msA_ok : Ok msA := by decide
theorem msA_in : In msA := by simp [In]
theorem geA_ok : GOk geA := by decide
theorem msA_lay : (layL msA).getD 0 0 = 130 ∧ (layL msA).getD 1 0 = 1 ∧ (layL msA).getD 9 0 = 2 ∧ (layL msA).getD 17 0 = 3 ∧ (layL msA).getD 25 0 = 4 ∧ (layL msA).getD 29 0 = 5 := by decide +kernel
theorem layS_ok {m : Mst} (h : Ok m) : layS m = layL m := by unfold layS; rw [if_pos (show okB m = true from decide_eq_true h)]
theorem glayS_ok {g : Ge} (h : GOk g) : glayS g = glayL g := by unfold glayS; rw [if_pos (show gokB g = true from decide_eq_true h)]
theorem msA_build (w : World) : (Instr.build 24 #[(0, .bool true), (1, .int .i64 1), (2, .int .i64 2), (3, .int .i64 3), (4, .int .i64 4), (5, .int .u32 5)]).run Try.prog w = .ok (.agg (mcs msA).toArray) w := run_build_mast w msA
theorem geA_build (w : World) : (Instr.build 38 #[(0, .int .i64 2), (1, .int .i64 8), (2, .int .i64 6), (3, .int .i64 16), (4, .int .i64 3)]).run Try.prog w = .ok (.agg (gcs geA).toArray) w := run_build_geo w geA
set_option maxRecDepth 100000 in
set_option maxHeartbeats 4000000 in
theorem awake8_any (w : World) :
    Calls Try.prog 8 #[] w fun e w' => e = .returned (.bool true) ∧ Below w.heap.size w w' := by
  obtain ⟨m6, hm, hsz⟩ := big_size (P := Try.prog) (t := 28) (s := 64) (by kernel_rfl)
  obtain ⟨mr, hmr, hszr⟩ := big_size (P := Try.prog) (t := 24) (s := 6) (by kernel_rfl)
  obtain ⟨mg, hmg, hszg⟩ := big_size (P := Try.prog) (t := 38) (s := 5) (by kernel_rfl)
  have hm0 : ¬ m6 = 0 := by omega
  have hmr0 : ¬ mr = 0 := by omega
  have hmg0 : ¬ mg = 0 := by omega
  have HM := Lib.hid (And.intro hm (And.intro hmr hmg))
  have HLl := Lib.hid (layL_length msA)
  have HGl := Lib.hid (glayL_length geA)
  have HLay := Lib.hid fun w' => mslay_any msA w' msA_in
  rw [layS_ok msA_ok] at HLay
  have HLayG := Lib.hid fun w' => gelay_any geA w' (by decide)
  rw [glayS_ok geA_ok] at HLayG
  have HRead := Lib.hid fun w' => msread_any (layL msA) w' HLl.out (layL_octets msA)
  rw [read_lay msA_ok msA_in] at HRead
  have HReadG := Lib.hid fun w' => geread_any (glayL geA) w' HGl.out (glayL_octets geA)
  rw [gread_lay geA_ok] at HReadG
  have HQ := Lib.hid fun w' => msright_any msA w'
  rw [show okB msA = true from by decide] at HQ
  have HC := Lib.hid msA_lay
  have LA := Lib.hid fun (W : World) (b : Nat) (x : Mst) (h : Box W b 24 (mcs x)) => big_load0 Try.prog b 0 (mcs x) mr (by rw [mcs_length, HM.out.2.1]) W h.range0
  have LG := Lib.hid fun (W : World) (b : Nat) (x : Ge) (h : Box W b 38 (gcs x)) => big_load0 Try.prog b 0 (gcs x) mg (by rw [gcs_length, HM.out.2.2]) W h.range0
  have LP := Lib.hid fun (W : World) (b : Nat) (x : List Int) (hx : x.length = 64) (h : Box W b 28 (bs x)) => big_load0 Try.prog b 0 (bs x) m6 (by rw [bs_length, hx, HM.out.1]) W h.range0
  clear hm hmr hmg
  generalize hRA : msA = ra at *
  have HRA := Lib.hid hRA
  clear hRA
  generalize hGA : geA = ga at *
  have HGA := Lib.hid hGA
  clear hGA
  generalize layL ra = La at *
  generalize glayL ga = Lg at *
  have L0 := Lib.hid (Bxs.nil w)
  go_enter Try.func8, Try.ntmps8
  go_wp2_with (first
    | (with_reducible refine wpList_build_known (o := ⟨some 8, .build _ _, _, _, _, _⟩) rfl _ _ _ rfl rfl _ msA_build ?_)
    | ((with_reducible refine wpList_ms_alloc (o := ⟨some 1, .alloc _, _, _, _, _⟩) rfl rfl ?_); intro w1 x1 hB1 hs0; clear hs0)
    | ((with_reducible refine wpList_ms_store (o := ⟨none, .store _ _ _, _, _, _, _⟩) rfl _ _ rfl w.heap.size msA m0 rfl rfl x1 ?_); intro w2 x2 hg2 hs0; clear hs0; have L1 := Lib.hid (L0.out.made hB1 hg2 x2); rw [HRA.out] at L1; have l2 := LA.out _ _ _ L1.out.head)
    | fail)
  clear x1 hB1 hg2 x2 L0
  refine (HLay.out _).mono ?_
  rintro e w3 ⟨rfl, hb3⟩
  replace L1 := Lib.hid (L1.out.on hb3)
  clear l2 hb3 HLay
  generalize w.heap.size = b1 at L1 ⊢
  -- the sector
  go_wp2_with (first
    | ((with_reducible refine wpList_pg_alloc (o := ⟨some 2, .alloc _, _, _, _, _⟩) rfl rfl ?_); intro w4 x4 hB4 hs0; clear hs0)
    | ((with_reducible refine wpList_pg_store (o := ⟨none, .store _ _ _, _, _, _, _⟩) rfl _ _ rfl w3.heap.size La pg0 HLl.out rfl rfl rfl x4 ?_); intro w5 x5 hg5 hs0; clear hs0; have L2 := Lib.hid (L1.out.made hB4 hg5 x5); have l5 := LP.out _ _ _ HLl.out L2.out.head)
    | fail)
  clear x4 hB4 hg5 x5 L1
  generalize w3.heap.size = b2 at *
  refine (HRead.out _).mono ?_
  rintro e w6 ⟨rfl, hb6⟩
  replace L2 := Lib.hid (L2.out.on hb6)
  clear l5 hb6 HRead
  -- what was read; a measure
  go_wp2_with (first
    | ((with_reducible refine wpList_ms_alloc (o := ⟨some 3, .alloc _, _, _, _, _⟩) rfl rfl ?_); intro w7 x7 hB7 hs0; clear hs0)
    | ((with_reducible refine wpList_ms_store (o := ⟨none, .store _ _ _, _, _, _, _⟩) rfl _ _ rfl w6.heap.size ra m0 rfl rfl x7 ?_); intro w8 x8 hg8 hs0; clear hs0; have L3 := Lib.hid (L2.out.made hB7 hg8 x8); clear x7 hB7 hg8 x8 L2; generalize w6.heap.size = b3 at *)
    | (with_reducible refine wpList_build_known (o := ⟨some 16, .build _ _, _, _, _, _⟩) rfl _ _ _ rfl rfl _ geA_build ?_)
    | ((with_reducible refine wpList_ge_alloc (o := ⟨some 5, .alloc _, _, _, _, _⟩) rfl rfl ?_); intro w9 x9 hB9 hs0; clear hs0)
    | ((with_reducible refine wpList_ge_store (o := ⟨none, .store _ _ _, _, _, _, _⟩) rfl _ _ rfl w8.heap.size geA g0 rfl rfl x9 ?_); intro w10 x10 hg10 hs0; clear hs0; have L4 := Lib.hid (L3.out.made hB9 hg10 x10); clear x9 hB9 hg10 x10 L3; rw [HGA.out] at L4; have l10 := LG.out _ _ _ L4.out.head; generalize w8.heap.size = b4 at *)
    | fail)
  refine (HLayG.out _).mono ?_
  rintro e w11 ⟨rfl, hb11⟩
  replace L4 := Lib.hid (L4.out.on hb11)
  clear l10 hb11 HLayG
  go_wp2_with fail
  refine (HReadG.out _).mono ?_
  rintro e w12 ⟨rfl, hb12⟩
  replace L4 := Lib.hid (L4.out.on hb12)
  clear hb12 HReadG
  go_wp2_with (first
    | ((with_reducible refine wpList_ge_alloc (o := ⟨some 6, .alloc _, _, _, _, _⟩) rfl rfl ?_); intro w13 x13 hB13 hs0; clear hs0)
    | ((with_reducible refine wpList_ge_store (o := ⟨none, .store _ _ _, _, _, _, _⟩) rfl _ _ rfl w12.heap.size ga g0 rfl rfl x13 ?_); intro w14 x14 hg14 hs0; clear hs0; have L5 := Lib.hid (L4.out.made hB13 hg14 x14); clear x13 hB13 hg14 x14 L4; have l14 := LA.out _ _ _ (L5.out.tail.tail.tail.tail.head); generalize w12.heap.size = b5 at *)
    | fail)
  refine (HQ.out _).mono ?_
  rintro e w15 ⟨rfl, hb15⟩
  replace L5 := Lib.hid (L5.out.on hb15)
  clear l14 hb15 HQ
  have y2 := L5.out.tail.tail.tail.head
  have l5 := LG.out _ _ _ L5.out.head
  have l4 := LG.out _ _ _ L5.out.tail.head
  have l3 := LA.out _ _ _ L5.out.tail.tail.head
  have l1 := LA.out _ _ _ L5.out.tail.tail.tail.tail.head
  have cell : ∀ k v, k < 64 → La.getD k 0 = v → w15.cell? ⟨b2, k, none⟩ = some (.int .u8 v) := fun k v hk hv => hv ▸ (y2.cell k).trans (bs_get (by rw [HLl.out]; exact hk))
  have p0 := cell 0 130 (by decide) HC.out.1
  have p1 := cell 1 1 (by decide) HC.out.2.1
  have p9 := cell 9 2 (by decide) HC.out.2.2.1
  have p17 := cell 17 3 (by decide) HC.out.2.2.2.1
  have p25 := cell 25 4 (by decide) HC.out.2.2.2.2.1
  have p29 := cell 29 5 (by decide) HC.out.2.2.2.2.2
  have hq := fun w' => equal_mast w' ra ra
  rw [(msEq_iff ra ra).2 rfl] at hq
  have hgd := guard_mast
  have hq2 := fun w' => equal_geo w' ga ga
  rw [(geEq_iff ga ga).2 rfl] at hq2
  have hgd2 := guard_geo
  have HB := Lib.hid L5.out.below
  clear cell y2 HLl HC L5 LA LG LP
  generalize mcs ra = R at *
  generalize gcs ga = G at *
  go_wp2
  go_ret
  exact ⟨rfl, HB.out⟩
end Go.Proofs.Ytoehflalpidhfaa

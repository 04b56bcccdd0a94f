/-
  MsE MsF TbB
-/
import Derived.Test.YtgnpohkippegpaaGreatMg29
import Derived.Test.YtgnpohkippegpaaGreatMg17
import Derived.Test.YtgnpohkippegpaaGreatMg27
import Derived.Test.YtgnpohkippegpaaGreatMg05
import Derived.Test.YtgnpohkippegpaaGreatMg21
import Derived.Test.YtgnpohkippegpaaGreatMg00
import Derived.Test.YtgnpohkippegpaaGreatMg24
import Derived.Deep.OwnRows
import Derived.WalkSpells
import Derived.WalkLawsBesides
import Derived.Deep.QuietTactic
import Derived.BigQuiet
import Derived.BigRegion
import Derived.IntWalk
/-
  Package mast: taken, takenGeom, Read, ReadGeom.
-/
namespace Go.Proofs.YtgnpohkippegpaaGreat
open Go.RowKit Word Crc Mast
set_option linter.unusedVariables false

theorem TwoBx.draws {w W : World} {T U : TypeId} {cs ds : List Value} (h : TwoBx w W T cs U ds) (q : Nat) : TwoBx w (W.drewN q) T cs U ds := ⟨h.1, h.2.1, below_draws h.2.2.1 q, h.2.2.2⟩
theorem mget_small (at_ : Nat) (zs : List Int) (w : World) (hf : at_ + 4 ≤ 64) (hl : zs.length = 64) (hb : octets zs) :
    Calls Tryz.prog 98 #[.agg (bs zs).toArray, .int .i64 at_, .int .i64 4] w fun e w' => e = .returned (.int .i64 (get zs at_ 4)) ∧ Below w.heap.size w w' := by
  have := mget_any at_ 4 zs w (by omega) (by omega) (by omega) hl hb
  rwa [i64_small at_ hb] at this

set_option maxRecDepth 100000 in
set_option maxHeartbeats 4000000 in
theorem mstaken_any (p : List Int) (w : World) (hl : p.length = 64) (hp : octets p) :
    Calls Tryz.prog 91 #[.agg (bs p).toArray] w fun e w' => e = .returned (.agg (mcs (taken p)).toArray) ∧ Below w.heap.size w w' := by
  obtain ⟨m6, hm, hsz⟩ := big_size (P := Tryz.prog) (t := 43) (s := 64) (by kernel_rfl)
  obtain ⟨mr, hmr, hszr⟩ := big_size (P := Tryz.prog) (t := 34) (s := 6) (by kernel_rfl)
  have hm0 : ¬ m6 = 0 := by omega
  have hmr0 : ¬ mr = 0 := by omega
  have HP := Lib.hid (And.intro hl hp)
  have HM := Lib.hid (And.intro hm hmr)
  have LP := Lib.hid fun (W : World) (L : TwoBx w W 43 (bs p) 34 (mcs m0)) => big_load0 Tryz.prog w.heap.size 0 (bs p) m6 (by rw [bs_length, HP.out.1, HM.out.1]) W L.1.range0
  have G0 := Lib.hid fun w' => (mget_any 1 8 p w' (by omega) (by omega) (by omega) hl hp : Calls Tryz.prog 98 #[.agg (bs p).toArray, .int .i64 1, .int .i64 8] w' _)
  have G1 := Lib.hid fun w' => (mget_any 9 8 p w' (by omega) (by omega) (by omega) hl hp : Calls Tryz.prog 98 #[.agg (bs p).toArray, .int .i64 9, .int .i64 8] w' _)
  have G2 := Lib.hid fun w' => (mget_any 17 8 p w' (by omega) (by omega) (by omega) hl hp : Calls Tryz.prog 98 #[.agg (bs p).toArray, .int .i64 17, .int .i64 8] w' _)
  have G3 := Lib.hid fun w' => (mget_small 25 p w' (by omega) hl hp : Calls Tryz.prog 98 #[.agg (bs p).toArray, .int .i64 25, .int .i64 4] w' _)
  have G4 := Lib.hid fun w' => (mget_small 29 p w' (by omega) hl hp : Calls Tryz.prog 98 #[.agg (bs p).toArray, .int .i64 29, .int .i64 4] w' _)
  have HT := Lib.hid (show taken p = ⟨p.getD 0 0 == 130, Rec.i64 (get p 1 8), Rec.i64 (get p 9 8), Rec.i64 (get p 17 8), get p 25 4, get p 29 4⟩ from rfl)
  have hv := get_bounds p 29 4 hp
  have hv0 := hv.1
  have hv1 : get p 29 4 < 4294967296 := by have := hv.2; omega
  clear hv
  clear hm hmr hl hp
  generalize Rec.i64 (get p 1 8) = v1 at *
  generalize Rec.i64 (get p 9 8) = v2 at *
  generalize Rec.i64 (get p 17 8) = v3 at *
  generalize get p 25 4 = v4 at *
  generalize get p 29 4 = v5 at *
  go_enter Tryz.func91, Tryz.ntmps91
  go_wp2_with (first
    | ((with_reducible refine wpList_pg_box (o := ⟨some 1, .box _ _, _, _, _, _⟩) rfl _ rfl p rfl ?_); intro w1 x0 hB1 hs1)
    | ((with_reducible refine wpList_ms_alloc (o := ⟨some 2, .alloc _, _, _, _, _⟩) rfl rfl ?_); intro w2 x1 hB2 hs2; have L := TwoBx.start x0 hB1 hs1 x1 hB2 hs2; rw [hs1]; clear hs1 hs2 x0 x1 hB1 hB2)
    | fail)
  refine wp_region_class_tail (fun w' => TwoBx w w' 43 (bs p) 34 (mcs m0)) 14 (by kernel_rfl) (by kernel_rfl) L.drew ?_
  intro X hX f hf hg
  have cl := fun x => LP.out _ (hf x)
  have ci := fun x => ((hf x).1.cell 0).trans (bs_get (show 0 < p.length by rw [HP.out.1]; omega))
  have Hf := Lib.hid hf
  have Hg := Lib.hid hg
  clear hf hg L
  simp only [List.take_succ_cons, List.take_zero, List.drop_succ_cons, List.drop_zero, Act.put, List.setIfInBounds_toArray, List.set_cons_succ, List.set_cons_zero]
  repeat (go_big_quiet_step ((go_at_call 98; (first | with_reducible exact calls_class (G0.out _) (fun _ hb => Hg.out _ ((Hf.out _).on hb)) | with_reducible exact calls_class (G1.out _) (fun _ hb => Hg.out _ ((Hf.out _).on hb)) | with_reducible exact calls_class (G2.out _) (fun _ hb => Hg.out _ ((Hf.out _).on hb)) | with_reducible exact calls_class (G3.out _) (fun _ hb => Hg.out _ ((Hf.out _).on hb)) | with_reducible exact calls_class (G4.out _) (fun _ hb => Hg.out _ ((Hf.out _).on hb))))))
  refine wpQuiet_nil ?_
  rintro _ ⟨x, rfl⟩
  have L := Hf.out x
  clear cl Hf Hg
  generalize f x = W2 at L ⊢
  clear hX
  have HX := Lib.hid L.2.1
  have HB := Lib.hid L.2.2
  clear L
  go_wp2_with (first
    | (with_reducible refine wpList_build_known (o := ⟨some 17, .build _ _, _, _, _, _⟩) rfl _ _ _ rfl rfl _ (fun w => run_build_mast w ⟨p.getD 0 0 == 130, v1, v2, v3, v4, v5⟩) ?_)
    | ((with_reducible refine wpList_ms_store (o := ⟨none, .store _ _ _, _, _, _, _⟩) rfl _ _ rfl (w.heap.size + 1) ⟨p.getD 0 0 == 130, v1, v2, v3, v4, v5⟩ m0 rfl rfl HX.out ?_); intro w9 hb9 hg9 _)
    | fail)
  rw [← HT.out] at hb9
  have hldF := big_load0 Tryz.prog (w.heap.size + 1) 0 (mcs (taken p)) mr (by rw [mcs_length, HM.out.2]) _ hb9.range0
  generalize hR : mcs (taken p) = R at hldF ⊢
  exact bodyPost_ret (v := .agg R.toArray) (by simp [results, Tryz.results91, go_sem, hszr, hldF]) rfl ⟨rfl, below_stored HB.out.1 hg9 HB.out.1.size (by omega)⟩

set_option maxRecDepth 100000 in
set_option maxHeartbeats 4000000 in
theorem msread_any (p : List Int) (w : World) (hl : p.length = 64) (hp : octets p) :
    Calls Tryz.prog 68 #[.agg (bs p).toArray] w fun e w' => e = .returned (.tuple #[.agg (mcs (readS p).1).toArray, .int .i64 (readS p).2]) ∧ Below w.heap.size w w' := by
  obtain ⟨m6, hm, hsz⟩ := big_size (P := Tryz.prog) (t := 43) (s := 64) (by kernel_rfl)
  obtain ⟨mr, hmr, hszr⟩ := big_size (P := Tryz.prog) (t := 34) (s := 6) (by kernel_rfl)
  have hm0 : ¬ m6 = 0 := by omega
  have hmr0 : ¬ mr = 0 := by omega
  have HP := Lib.hid (And.intro hl hp)
  have HM := Lib.hid (And.intro hm hmr)
  have HTk := Lib.hid fun w' => mstaken_any p w' hl hp
  have HLay := Lib.hid fun w' => mslay_any (taken p) w' (taken_in hp)
  have HFl := Lib.hid fun w' => mfault_any p (layS (taken p)) w' hl hp (layS_length _)
  have HF := Lib.hid (fault_lay (p := p))
  clear hm hmr hl hp
  generalize faultS p (layS (taken p)) = k at *
  generalize hY : bs (layS (taken p)) = Y at *
  generalize taken p = tk at *
  clear hY
  have LR := Lib.hid fun (W : World) (b : Nat) (x : Mst) (h : Box W b 34 (mcs x)) => big_load0 Tryz.prog b 0 (mcs x) mr (by rw [mcs_length, HM.out.2]) W h.range0
  go_enter Tryz.func68, Tryz.ntmps68
  go_wp2_with (first
    | ((with_reducible refine wpList_pg_box (o := ⟨some 1, .box _ _, _, _, _, _⟩) rfl _ rfl p rfl ?_); intro w1 x0 hB1 hs1)
    | ((with_reducible refine wpList_ms_alloc (o := ⟨some 2, .alloc _, _, _, _, _⟩) rfl rfl ?_); intro w2 x1 hB2 hs2; have L := TwoBx.start x0 hB1 hs1 x1 hB2 hs2; rw [hs1]; clear hs1 hs2 x0 x1 hB1 hB2; have hld := big_load0 Tryz.prog w.heap.size 0 (bs p) m6 (by rw [bs_length, HP.out.1, HM.out.1]) _ L.1.range0)
    | fail)
  refine (HTk.out _).mono ?_
  rintro e w3 ⟨rfl, hb3⟩
  replace L := L.on hb3
  clear hb3 hld HTk
  go_wp2_with (first
    | ((with_reducible refine wpList_ms_alloc (o := ⟨some 4, .alloc _, _, _, _, _⟩) rfl rfl ?_); intro w5 x5 hB5 _)
    | ((with_reducible refine wpList_ms_store (o := ⟨none, .store _ _ _, _, _, _, _⟩) rfl _ _ rfl w3.heap.size tk m0 rfl rfl x5 ?_); intro w6 x6 hg6 _)
    | fail)
  have L3 : ThreeBx w w6 43 (bs p) 34 (mcs m0) w3.heap.size 34 (mcs tk) := ⟨L.on (below_stored hB5 hg6 hB5.size (Nat.le_refl _)), x6, L.2.2.2⟩
  clear x5 hB5 x6 hg6 L
  generalize w3.heap.size = b at L3 ⊢
  have LP := Lib.hid fun (W : World) (L : ThreeBx w W 43 (bs p) 34 (mcs m0) b 34 (mcs tk)) => big_load0 Tryz.prog w.heap.size 0 (bs p) m6 (by rw [bs_length, HP.out.1, HM.out.1]) W L.1.1.range0
  refine wp_region_class (fun w' => ThreeBx w w' 43 (bs p) 34 (mcs m0) b 34 (mcs tk)) (by kernel_rfl) (by kernel_rfl) L3.drew ?_
  intro X hX f hf hg
  have cl := fun x => LP.out _ (hf x)
  have cr := fun x => LR.out _ _ tk (hf x).2.1
  have Hf := Lib.hid hf
  have Hg := Lib.hid hg
  clear hf hg L3
  simp only [Act.put, List.setIfInBounds_toArray, List.set_cons_succ, List.set_cons_zero]
  repeat (go_big_quiet_step (first
    | (go_at_call 51; with_reducible exact calls_class (HLay.out _) (fun _ hb => Hg.out _ ((Hf.out _).on hb)))
    | (go_at_call 92; with_reducible exact calls_class (HFl.out _) (fun _ hb => Hg.out _ ((Hf.out _).on hb)))))
  refine wpQuiet_nil ?_
  rintro _ ⟨x, rfl⟩
  have L := Hf.out x
  clear cl cr Hf Hg HLay HFl LP
  generalize f x = wx at L ⊢
  clear hX
  have HX := Lib.hid L.1.2.1
  have HB := Lib.hid L.1.2.2
  by_cases hk : k = 0
  · subst hk
    have HS := Lib.hid (HF.out.1 rfl)
    have cr := LR.out _ _ tk L.2.1
    clear L HF
    go_wp2_with (first
      | ((with_reducible refine wpList_ms_store (o := ⟨none, .store _ _ _, _, _, _, _⟩) rfl _ _ rfl (w.heap.size + 1) tk m0 rfl rfl HX.out ?_); intro w9 hb9 hg9 _)
      | fail)
    have hldF := big_load0 Tryz.prog (w.heap.size + 1) 0 (mcs tk) mr (by rw [mcs_length, HM.out.2]) _ hb9.range0
    generalize hR : mcs tk = R at hldF ⊢
    exact bodyPost_ret (v := .tuple #[.agg R.toArray, .int .i64 0]) (by simp [results, Tryz.results68, go_sem, hszr, hldF]) rfl ⟨by rw [HS.out, hR], below_stored HB.out.1 hg9 HB.out.1.size (by omega)⟩
  · have HS := Lib.hid (HF.out.2 hk)
    have hk0 : (k == 0) = false := by simp [hk]
    clear L HF
    go_wp2_with (first
      | (with_reducible refine wpList_ms_zero (o := ⟨some 14, .build _ _, _, _, _, _⟩) rfl rfl ?_)
      | ((with_reducible refine wpList_ms_store (o := ⟨none, .store _ _ _, _, _, _, _⟩) rfl _ _ rfl (w.heap.size + 1) m0 m0 rfl rfl HX.out ?_); intro w9 hb9 hg9 _)
      | fail)
    have hldF := big_load0 Tryz.prog (w.heap.size + 1) 0 (mcs m0) mr (by rw [mcs_length, HM.out.2]) _ hb9.range0
    generalize hR : mcs m0 = R at hldF ⊢
    exact bodyPost_ret (v := .tuple #[.agg R.toArray, .int .i64 k]) (by simp [results, Tryz.results68, go_sem, hszr, hldF]) rfl ⟨by rw [HS.out, hR], below_stored HB.out.1 hg9 HB.out.1.size (by omega)⟩

end Go.Proofs.YtgnpohkippegpaaGreat

/-
  'awake' of layer 8 answers true; masts and measures as arguments opened; many variables side by side.
-/
namespace Go.Proofs.YtgnpohkippegpaaGreat
open Go.RowKit Word Crc Mast
set_option linter.unusedVariables false

set_option maxRecDepth 100000 in
theorem open_mast {H : Type} {enc : TypeId × Value → H} {w : World} {base b0 : Nat} {r : Reach} {sp : Nat → Bool} {held : Bool} {v : Value} {d : DataW H} {ps : List MemPlace}
    (hu : Value.okWide Tryz.prog w r b0 34 v) (h : DataW.Trod enc Tryz.prog w base sp held 34 v d ps) : ∃ x : Mst, v = .agg (mcs x).toArray ∧ In x := by
  obtain ⟨cs, rfl, hs⟩ := has_agg (s := .pair 1 .bool (.pair 1 (.int .i64) (.pair 1 (.int .i64) (.pair 1 (.int .i64) (.pair 1 (.int .i64) (.pair 1 (.int .u32) .nil)))))) 3 (by kernel_rfl) h hu (.inl ⟨_, Tryz.underlying34⟩)
  obtain ⟨_, _, rfl, _, ⟨f, rfl⟩, _, _, rfl, _, ⟨g, rfl, _⟩, _, _, rfl, _, ⟨e, rfl, _⟩, _, _, rfl, _, ⟨s, rfl, _⟩, _, _, rfl, _, ⟨p, rfl, _⟩, _, _, rfl, _, ⟨u, rfl, hw⟩, rfl⟩ := hs
  refine ⟨⟨f, g, e, s, p, u⟩, rfl, ?_⟩
  simp [Lit.wf, IntKind.min, IntKind.max, IntKind.signed, IntKind.bits] at hw
  exact ⟨by show 0 ≤ u; omega, by show u < 4294967296; omega⟩
set_option maxRecDepth 100000 in
theorem open_ge {H : Type} {enc : TypeId × Value → H} {w : World} {base b0 : Nat} {r : Reach} {sp : Nat → Bool} {held : Bool} {v : Value} {d : DataW H} {ps : List MemPlace}
    (hu : Value.okWide Tryz.prog w r b0 23 v) (h : DataW.Trod enc Tryz.prog w base sp held 23 v d ps) : ∃ x : Ge, v = .agg (gcs x).toArray ∧ x.seq < 9223372036854775808 := by
  obtain ⟨conv, soft, seq, size, opn, rfl, hs⟩ := open_geo hu h
  exact ⟨⟨conv, soft, seq, size, opn⟩, rfl, hs⟩

/-- variables side by side -/
def Bxs (w W : World) (l : List (Nat × TypeId × List Value)) : Prop := (∀ x ∈ l, Box W x.1 x.2.1 x.2.2) ∧ Below w.heap.size w W
section
variable {w W W' W2 : World} {l : List (Nat × TypeId × List Value)}
theorem Bxs.nil (w : World) : Bxs w w [] := ⟨fun x hx => by simp at hx, Below.refl _ _⟩
theorem Bxs.on (h : Bxs w W l) (hb : Below W.heap.size W W') : Bxs w W' l := ⟨fun x hx => (h.1 x hx).on hb, bthen h.2 hb⟩
theorem Bxs.drew (h : Bxs w W l) : Bxs w W.drew l := ⟨h.1, h.2.drew⟩
theorem Bxs.add (h : Bxs w W l) {T : TypeId} {cs : List Value} (hB : Below W.heap.size W W') (x : Box W' W.heap.size T cs) : Bxs w W' ((W.heap.size, T, cs) :: l) := by
  refine ⟨fun y hy => ?_, bthen h.2 hB⟩
  rcases List.mem_cons.1 hy with rfl | hy
  · exact x
  · exact (h.1 y hy).on hB
theorem Bxs.made (h : Bxs w W l) {T : TypeId} {cs : List Value} (hB : Below W.heap.size W W') (hg : W'.grownBy W2 (some W.heap.size)) (x : Box W2 W.heap.size T cs) : Bxs w W2 ((W.heap.size, T, cs) :: l) := h.add (below_stored hB hg hB.size (Nat.le_refl _)) x
theorem Bxs.get (h : Bxs w W l) {b : Nat} {T : TypeId} {cs : List Value} (hm : (b, T, cs) ∈ l) : Box W b T cs := h.1 _ hm
theorem Bxs.head {b : Nat} {T : TypeId} {cs : List Value} (h : Bxs w W ((b, T, cs) :: l)) : Box W b T cs := h.get (.head _)
theorem Bxs.tail {a : Nat × TypeId × List Value} (h : Bxs w W (a :: l)) : Bxs w W l := ⟨fun x hx => h.1 x (.tail _ hx), h.2⟩
theorem Bxs.below (h : Bxs w W l) : Below w.heap.size w W := h.2
end

abbrev msA : Mst := ⟨true, 1, 2, 3, 4, 5⟩
abbrev geA : Ge := ⟨2, 8, 6, 16, 3⟩
theorem msA_ok : Ok msA := by decide
theorem msA_in : In msA := by simp [In]
theorem geA_ok : GOk geA := by decide
theorem msA_lay : (layL msA).getD 0 0 = 130 ∧ (layL msA).getD 1 0 = 1 ∧ (layL msA).getD 9 0 = 2 ∧ (layL msA).getD 17 0 = 3 ∧ (layL msA).getD 25 0 = 4 ∧ (layL msA).getD 29 0 = 5 := by decide +kernel
theorem layS_ok {m : Mst} (h : Ok m) : layS m = layL m := by unfold layS; rw [if_pos (show okB m = true from decide_eq_true h)]
theorem glayS_ok {g : Ge} (h : GOk g) : glayS g = glayL g := by unfold glayS; rw [if_pos (show gokB g = true from decide_eq_true h)]
theorem msA_build (w : World) : (Instr.build 34 #[(0, .bool true), (1, .int .i64 1), (2, .int .i64 2), (3, .int .i64 3), (4, .int .i64 4), (5, .int .u32 5)]).run Tryz.prog w = .ok (.agg (mcs msA).toArray) w := run_build_mast w msA
theorem geA_build (w : World) : (Instr.build 23 #[(0, .int .i64 2), (1, .int .i64 8), (2, .int .i64 6), (3, .int .i64 16), (4, .int .i64 3)]).run Tryz.prog w = .ok (.agg (gcs geA).toArray) w := run_build_geo w geA
end Go.Proofs.YtgnpohkippegpaaGreat

/-
  Package table: a table in memory (three blocks known whole); right, has, New, Get.
-/
namespace Go.Proofs.YtgnpohkippegpaaGreat
open Go.RowKit Leaf
set_option linter.unusedVariables false

namespace Tbl
/-- how many leaves so many blocks take -/
def pages (n : Nat) : Nat := (n + 9) / 10
theorem pages_up (n : Nat) : n ≤ 10 * pages n := by unfold pages; omega
theorem pages_low (n : Nat) : 10 * pages n ≤ n + 9 := by unfold pages; omega
def hasB (n : Nat) (b : Int) : Bool := decide (0 ≤ b) && decide (b < n)
theorem hasB_yes {n : Nat} {b : Int} (h0 : 0 ≤ b) (h1 : b < n) : hasB n b = true := by simp [hasB, h0, h1]
theorem hasB_low {n : Nat} {b : Int} (h : ¬ 0 ≤ b) : hasB n b = false := by simp [hasB, h]
theorem hasB_high {n : Nat} {b : Int} (h : ¬ b < n) : hasB n b = false := by simp [hasB, h]
theorem hasB_nat {n k : Nat} (h : k < n) : hasB n k = true := hasB_yes (by omega) (by omega)
theorem hasB_iff {n : Nat} {b : Int} : hasB n b = true ↔ ∃ k : Nat, b = k ∧ k < n := by
  unfold hasB
  simp only [Bool.and_eq_true, decide_eq_true_eq]
  constructor
  · rintro ⟨h0, h1⟩
    exact ⟨b.toNat, by omega, by omega⟩
  · rintro ⟨k, rfl, h⟩
    omega
def getT (n : Nat) (ys : List Int) (b : Int) : Int := if hasB n b = true then ys.getD b.toNat 0 else 0
theorem getT_nat {n k : Nat} {ys : List Int} (h : k < n) : getT n ys k = ys.getD k 0 := by unfold getT; rw [if_pos (hasB_nat h)]; rfl
theorem getT_no {n : Nat} {ys : List Int} {b : Int} (h : hasB n b = false) : getT n ys b = 0 := by unfold getT; rw [h]; rfl
end Tbl
open Tbl
abbrev bls (ds : List Bool) : List Value := ds.map Value.bool
theorem bls_one (ds : List Bool) : ∀ u ∈ bls ds, u.oneCell' = true := by
  intro u hu
  obtain ⟨b, _, rfl⟩ := List.mem_map.1 hu
  rfl
theorem bls_get {ds : List Bool} {k : Nat} (h : k < ds.length) : (bls ds)[k]? = some (.bool (ds.getD k false)) := by simp [h]
abbrev rowAt (g p : Nat) : Value := .slice (some ⟨g, 0, none⟩) p p
abbrev tcs (n g h : Nat) : List Value := [.int .i64 n, rowAt g (pages n), rowAt h (pages n)]
abbrev tp (d : Nat) : Value := .pointer (some ⟨d, 0, none⟩)
/-- block d is a table of n blocks: its leaves' places ys lie in block g, what is dirty in block h -/
structure TbIs (w : World) (d g h n : Nat) (ys : List Int) (ds : List Bool) : Prop where
  tb : Box w d 99 (tcs n g h)
  lv : Box w g 101 (is ys)
  dt : Box w h 4 (bls ds)
  hn : n ≤ 4096
  hy : ys.length = 10 * pages n
  hd : ds.length = pages n
section
variable {w w' : World} {d g h n : Nat} {ys : List Int} {ds : List Bool}
theorem TbIs.on (t : TbIs w d g h n ys ds) (hb : Below w.heap.size w w') : TbIs w' d g h n ys ds :=
  ⟨t.tb.below hb t.tb.lt, t.lv.below hb t.lv.lt, t.dt.below hb t.dt.lt, t.hn, t.hy, t.hd⟩
theorem TbIs.num (t : TbIs w d g h n ys ds) : w.cell? ⟨d, 0, none⟩ = some (.int .i64 n) := t.tb.cell 0
theorem TbIs.rows (t : TbIs w d g h n ys ds) : w.cell? ⟨d, 1, none⟩ = some (rowAt g (pages n)) ∧ w.cell? ⟨d, 2, none⟩ = some (rowAt h (pages n)) := ⟨t.tb.cell 1, t.tb.cell 2⟩
theorem TbIs.place (t : TbIs w d g h n ys ds) {k : Nat} (hk : k < ys.length) : w.cell? ⟨g, k, none⟩ = some (.int .i64 (ys.getD k 0)) := (t.lv.cell k).trans (is_get hk)
theorem TbIs.flag (t : TbIs w d g h n ys ds) {k : Nat} (hk : k < pages n) : w.cell? ⟨h, k, none⟩ = some (.bool (ds.getD k false)) := (t.dt.cell k).trans (bls_get (by rw [t.hd]; exact hk))
theorem TbIs.apart (t : TbIs w d g h n ys ds) : d ≠ g ∧ d ≠ h ∧ g ≠ h := ⟨t.tb.ne t.lv (by decide), t.tb.ne t.dt (by decide), t.lv.ne t.dt (by decide)⟩
end
theorem wrap64_nat {k : Nat} (h : k ≤ 1000000) : wrap64 (k : Int) = k := by
  unfold wrap64; omega
theorem has_any {d g h n : Nat} {ys : List Int} {ds : List Bool} (w : World) (b : Int) (t : TbIs w d g h n ys ds) :
    Calls Tryz.prog 41 #[tp d, .int .i64 b] w fun e w' => e = .returned (.bool (hasB n b)) ∧ w = w' := by
  have c0 := t.num
  by_cases h0 : 0 ≤ b
  · by_cases h1 : b < n
    · have H := Lib.hid (hasB_yes h0 h1)
      go_enter Tryz.func41, Tryz.ntmps41
      go_wp2
      go_ret
      exact ⟨ret_bool H.out, rfl⟩
    · have H := Lib.hid (hasB_high (n := n) h1)
      go_enter Tryz.func41, Tryz.ntmps41
      go_wp2
      go_ret
      exact ⟨ret_bool H.out, rfl⟩
  · have H := Lib.hid (hasB_low (n := n) h0)
    go_enter Tryz.func41, Tryz.ntmps41
    go_wp2
    go_ret
    exact ⟨ret_bool H.out, rfl⟩
def rightN (b : Int) : Bool := decide (0 ≤ b) && decide (b ≤ 4096)
theorem tright_any (w : World) (b : Int) : Calls Tryz.prog 53 #[.int .i64 b] w fun e w' => e = .returned (.bool (rightN b)) ∧ w = w' := by
  have HD := Lib.hid (show rightN b = (decide (0 ≤ b) && decide (b ≤ 4096)) from rfl)
  by_cases h0 : 0 ≤ b
  · by_cases h1 : b ≤ 4096
    · have H := Lib.hid (show rightN b = true by rw [HD.out]; simp [h0, h1])
      go_enter Tryz.func53, Tryz.ntmps53
      go_wp2
      go_ret
      exact ⟨ret_bool H.out, rfl⟩
    · have H := Lib.hid (show rightN b = false by rw [HD.out]; simp [h1])
      go_enter Tryz.func53, Tryz.ntmps53
      go_wp2
      go_ret
      exact ⟨ret_bool H.out, rfl⟩
  · have H := Lib.hid (show rightN b = false by rw [HD.out]; simp [h0])
    go_enter Tryz.func53, Tryz.ntmps53
    go_wp2
    go_ret
    exact ⟨ret_bool H.out, rfl⟩
theorem tget_any {d g h n : Nat} {ys : List Int} {ds : List Bool} (w : World) (b : Int) (t : TbIs w d g h n ys ds) :
    Calls Tryz.prog 18 #[tp d, .int .i64 b] w fun e w' => e = .returned (.int .i64 (getT n ys b)) ∧ w = w' := by
  obtain ⟨c1, c2⟩ := t.rows
  have HH := Lib.hid (has_any w b t)
  cases hh : hasB n b
  · have H := Lib.hid (getT_no (ys := ys) hh)
    rw [hh] at HH
    go_enter Tryz.func18, Tryz.ntmps18
    go_wp2_with fail
    refine HH.out.mono ?_
    rintro e w' ⟨rfl, rfl⟩
    go_wp2
    go_ret
    exact ⟨ret_int H.out, rfl⟩
  · rw [hh] at HH
    obtain ⟨k, rfl, hk⟩ := hasB_iff.1 hh
    have HG := Lib.hid (getT_nat (ys := ys) hk)
    have hk1 : k < ys.length := by rw [t.hy]; have := pages_up n; omega
    have ck := t.place hk1
    have hp : k / 10 < pages n := by unfold pages; omega
    have hw : wrap64 ((k : Int) / 10) = ((k / 10 : Nat) : Int) := by rw [show ((k : Int) / 10) = ((k / 10 : Nat) : Int) by omega]; exact wrap64_nat (by have := t.hn; omega)
    rw [← HG.out] at ck
    clear HG
    generalize getT n ys (k : Int) = v at ck ⊢
    rw [show k = k / 10 * 10 + k % 10 by omega] at ck
    have hpi : ((k / 10 : Nat) : Int) < (pages n : Int) := by omega
    clear hp hk1
    go_enter Tryz.func18, Tryz.ntmps18
    go_wp2_with fail
    refine HH.out.mono ?_
    rintro e w' ⟨rfl, rfl⟩
    go_wp2
    go_ret
    exact ⟨ret_int rfl, rfl⟩
theorem made_is (m : Nat) : (madeCells (is z10).toArray m) = (is (List.replicate m 0)).toArray := by
  apply Array.ext_getElem?
  intro i
  by_cases hi : i < m
  · have hz : i % 10 < 10 := Nat.mod_lt _ (by decide)
    have e : ∀ k, k < 10 → (is z10).toArray[k]! = Value.int .i64 0 := fun k hk => by
      have e2 : is z10 = List.replicate 10 (Value.int .i64 0) := rfl
      rw [e2]
      generalize hm : (10 : Nat) = m10 at hk ⊢
      simp [hk]
    have e3 : (is z10).toArray.size = 10 := rfl
    have e4 := e _ hz
    generalize is z10 = Z at e3 e4 ⊢
    simp [madeCells, is, hi, e3]
    simpa using e4
  · simp [madeCells, is, hi]
theorem made_bls (m : Nat) : (madeCells #[Value.bool false] m) = (bls (List.replicate m false)).toArray := by
  apply Array.ext_getElem?
  intro i
  by_cases hi : i < m
  · simp [madeCells, hi, Nat.mod_one]
  · simp [madeCells, hi]
theorem make_leaves (w : World) (m : Nat) (hm : m ≤ 410) :
    (Instr.makeSlice 96 (.int .i64 (m : Int)) (.int .i64 (m : Int))).run Tryz.prog w = .ok (rowAt w.heap.size m) (w.alloc (.cells (is (List.replicate (10 * m) 0)).toArray 101)) := by
  obtain ⟨i, hi, hz, hs, hb⟩ := info_parts (P := Tryz.prog) (e := 101) (z := .agg (is z10).toArray) (size := 10) (bytes := 80) (by kernel_rfl)
  have hr := run_make (P := Tryz.prog) w 96 101 i _ Tryz.underlying96 hi hz .i64 .i64 m m (by omega) (Int.le_refl _) (by rw [hb]; omega) (by omega)
  rw [hr, hs, Int.toNat_natCast, show (Value.agg (is z10).toArray).cells = (is z10).toArray from rfl, made_is, Nat.mul_comm]
theorem make_flags (w : World) (m : Nat) (hm : m ≤ 500) :
    (Instr.makeSlice 97 (.int .i64 (m : Int)) (.int .i64 (m : Int))).run Tryz.prog w = .ok (rowAt w.heap.size m) (w.alloc (.cells (bls (List.replicate m false)).toArray 4)) := by
  obtain ⟨i, hi, hz, hs, hb⟩ := info_parts (P := Tryz.prog) (e := 4) (z := .bool false) (size := 1) (bytes := 1) (by kernel_rfl)
  have hr := run_make (P := Tryz.prog) w 97 4 i _ Tryz.underlying97 hi hz .i64 .i64 m m (by omega) (Int.le_refl _) (by rw [hb]; omega) (by omega)
  rw [hr, hs, Int.toNat_natCast, show (Value.bool false).cells = #[Value.bool false] from rfl, made_bls, Nat.mul_one]
theorem pages_le {n : Nat} (h : n ≤ 4096) : pages n ≤ 410 := by unfold pages; omega
theorem three_new (w : World) (o1 o2 o3 : Obj) : (((w.alloc o1).alloc o2).alloc o3).heap[w.heap.size]? = some o1 ∧ (((w.alloc o1).alloc o2).alloc o3).heap[w.heap.size + 1]? = some o2 ∧
    (((w.alloc o1).alloc o2).alloc o3).heap[w.heap.size + 1 + 1]? = some o3 ∧ Below w.heap.size w (((w.alloc o1).alloc o2).alloc o3).drew := by
  refine ⟨?_, ?_, ?_, (((((Below.refl _ _).alloc (Nat.le_refl _) _).alloc (by simp) _).alloc (by simp; omega) _)).drew⟩
  · show (((w.heap.push o1).push o2).push o3)[w.heap.size ]? = _
    rw [Array.getElem?_push, if_neg (by simp; omega), Array.getElem?_push, if_neg (by simp), Array.getElem?_push, if_pos rfl]
  · show (((w.heap.push o1).push o2).push o3)[w.heap.size + 1]? = _
    rw [Array.getElem?_push, if_neg (by simp), Array.getElem?_push, if_pos (by simp)]
  · show (((w.heap.push o1).push o2).push o3)[w.heap.size + 1 + 1]? = _
    rw [Array.getElem?_push, if_pos (by simp)]
theorem tbnew_any (n : Nat) (w : World) (hn : n ≤ 4096) :
    Calls Tryz.prog 27 #[.int .i64 n] w fun e w' => ∃ d g h, e = .returned (tp d) ∧ TbIs w' d g h n (List.replicate (10 * pages n) 0) (List.replicate (pages n) false) ∧ w.heap.size ≤ d ∧ w.heap.size ≤ g ∧ w.heap.size ≤ h ∧ Below w.heap.size w w' := by
  have HR := Lib.hid fun w => tright_any w (n : Int)
  rw [show rightN n = true by unfold rightN; simp; omega] at HR
  have hm1 := fun w' => make_leaves w' (pages n) (pages_le hn)
  have hm2 := fun w' => make_flags w' (pages n) (by have := pages_le hn; omega)
  have hp : ((n : Int) + 10 - 1) / 10 = (pages n : Int) := by unfold pages; omega
  have HN := Lib.hid hn
  generalize hY : is (List.replicate (10 * pages n) 0) = Y at *
  generalize hD : bls (List.replicate (pages n) false) = D at *
  have HY := Lib.hid hY
  have HD := Lib.hid hD
  clear hY hD
  go_enter Tryz.func27, Tryz.ntmps27
  go_wp2_with fail
  refine (HR.out _).mono ?_
  rintro e w' ⟨rfl, rfl⟩
  go_wp2
  go_region
  all_goals go_wp2
  all_goals go_ret
  · obtain ⟨x1, x2, x3, xb⟩ := three_new w (.cells Y.toArray 101) (.cells D.toArray 4) (.cells #[.int .i64 n, rowAt w.heap.size (pages n), rowAt (w.heap.size + 1) (pages n)] 99)
    exact ⟨_, _, _, rfl, ⟨x3, by rw [HY.out]; exact x1, by rw [HD.out]; exact x2, HN.out, by simp, by simp⟩, by omega, by omega, by omega, xb⟩
  · obtain ⟨x1, x2, x3, xb⟩ := three_new w (.cells D.toArray 4) (.cells Y.toArray 101) (.cells #[.int .i64 n, rowAt (w.heap.size + 1) (pages n), rowAt w.heap.size (pages n)] 99)
    exact ⟨_, _, _, rfl, ⟨x3, by rw [HY.out]; exact x2, by rw [HD.out]; exact x1, HN.out, by simp, by simp⟩, by omega, by omega, by omega, xb⟩
end Go.Proofs.YtgnpohkippegpaaGreat

/-
  'awake' of layer 17 answers true.
-/
import Derived.Test.YtjjomfpkdbfhdaaSnF
import Derived.Test.YtjjomfpkdbfhdaaSnH
namespace Go.Proofs.Ytjjomfpkdbfhdaa
open Go.RowKit Word Snap
set_option linter.unusedVariables false

abbrev Snap.dK : List Int := 7 :: List.replicate 31 0
abbrev Snap.oA : Ol := ⟨3, false, d32⟩
abbrev Snap.oB : Ol := ⟨3, true, dK⟩
theorem oA_in : OIn oA := ⟨by simp, by decide⟩
theorem oB_in : OIn oB := ⟨by simp, by decide⟩
theorem zero_odata (w : World) : (zeroValue 36).run Try.prog w = .ok (.agg (bs d32).toArray) w :=
  (zero_of_info (P := Try.prog) (t := 36) (v := .agg (bs d32).toArray) (n := 32) (by kernel_rfl)).1 w
theorem run_build_dK (w : World) : (Instr.build 36 #[(0, .int .u8 7)]).run Try.prog w = .ok (.agg (bs dK).toArray) w := by
  unfold Instr.build
  simp only [Sem.run_bind, zero_odata w, Result.andThen, run_underlying Try.underlying36, osize_u8]
  rfl
theorem old_places (w : World) : (Array.mapM (fun f : Field => (do pure (f.offset, ← sizeOf f.type) : Sem (Nat × Nat))) (Try.prog.fieldsOf 38)).run Try.prog w = .ok #[(0, 1), (1, 1), (2, 32)] w := by
  have h3 : ∀ w : World, (sizeOf 3).run Try.prog w = .ok 1 w := by intro w; go_simp
  have h4 : ∀ w : World, (sizeOf 4).run Try.prog w = .ok 1 w := by intro w; go_simp
  have h5 : ∀ w : World, (sizeOf 36).run Try.prog w = .ok 32 w := by intro w; go_simp
  simp only [Program.fieldsOf, Try.underlying38]
  simp only [List.mapM_toArray, List.mapM_cons, List.mapM_nil, Sem.run_bind, Sem.run_pure, h3, h4, h5, Result.andThen, Sem.run_map]
theorem fill_bool (pl : Nat → Option (Nat × Nat)) (pre rest : List Value) (x0 : Value) (n : Bool) (i off : Nat) (more : List (Nat × Value)) (hpl : pl i = some (off, 1)) (hoff : pre.length = off) :
    Instr.fill pl (pre ++ x0 :: rest).toArray ((i, .bool n) :: more) = Instr.fill pl (pre ++ Value.bool n :: rest).toArray more := by
  have e : (Value.bool n).cells = #[Value.bool n] := rfl
  conv => lhs; unfold Instr.fill
  simp only [hpl, e]
  rw [if_neg (by simp; omega)]
  congr 1
  subst hoff
  simp
theorem run_build_old1 (w : World) (b : Int) : (Instr.build 38 #[(0, .int .i64 b)]).run Try.prog w = .ok (.agg (ocs ⟨b, false, d32⟩).toArray) w := by
  have hp := old_places w
  simp only [Program.fieldsOf, Try.underlying38] at hp
  unfold Instr.build
  simp only [Sem.run_bind, zero_old w, Result.andThen, run_underlying Try.underlying38, hp]
  have e : Instr.fill (fun x => #[((0, 1) : Nat × Nat), (1, 1), (2, 32)][x]?) (Value.agg (ocs ol0).toArray).cells [(0, .int .i64 b)] = some (ocs ⟨b, false, d32⟩).toArray :=
    (fill_int _ [] _ _ _ _ 0 0 _ rfl rfl).trans rfl
  rw [e]
  rfl
theorem run_build_old2 (w : World) (b : Int) (h : Bool) : (Instr.build 38 #[(0, .int .i64 b), (1, .bool h)]).run Try.prog w = .ok (.agg (ocs ⟨b, h, d32⟩).toArray) w := by
  have hp := old_places w
  simp only [Program.fieldsOf, Try.underlying38] at hp
  unfold Instr.build
  simp only [Sem.run_bind, zero_old w, Result.andThen, run_underlying Try.underlying38, hp]
  have e : Instr.fill (fun x => #[((0, 1) : Nat × Nat), (1, 1), (2, 32)][x]?) (Value.agg (ocs ol0).toArray).cells [(0, .int .i64 b), (1, .bool h)] = some (ocs ⟨b, h, d32⟩).toArray := by
    refine (fill_int _ [] _ _ _ _ 0 0 _ rfl rfl).trans ?_
    exact (fill_bool _ [_] _ _ _ 1 1 _ rfl rfl).trans rfl
  rw [e]
  rfl
theorem run_build_old3 (w : World) (o : Ol) (ho : OIn o) : (Instr.build 38 #[(0, .int .i64 o.b), (1, .bool o.has), (2, .agg (bs o.data).toArray)]).run Try.prog w = .ok (.agg (ocs o).toArray) w := by
  have hp := old_places w
  simp only [Program.fieldsOf, Try.underlying38] at hp
  unfold Instr.build
  simp only [Sem.run_bind, zero_old w, Result.andThen, run_underlying Try.underlying38, hp]
  have e : Instr.fill (fun x => #[((0, 1) : Nat × Nat), (1, 1), (2, 32)][x]?) (Value.agg (ocs ol0).toArray).cells [(0, .int .i64 o.b), (1, .bool o.has), (2, .agg (bs o.data).toArray)] = some (ocs o).toArray := by
    refine (fill_int _ [] _ _ _ _ 0 0 _ rfl rfl).trans ?_
    refine (fill_bool _ [_] _ _ _ 1 1 _ rfl rfl).trans ?_
    exact fill_end _ [_, _] (bs d32) (bs o.data) 2 2 (by rw [bs_length, ho.1]; rfl) rfl (by rw [bs_length, bs_length, ho.1]; rfl)
  rw [e]
  rfl
section
variable {w : World} {ops : Array Oper} {rest : List Oper} {o : Oper} {a : Act} {Q : Exit → Act → World → Prop}
theorem wpList_old_build1 (hgd : o.guard = none) (x0 : Operand) (ho : o.op = .build 38 #[(0, x0)]) (b : Int) (h0 : a.eval x0 = .int .i64 b)
    (h : wpList Try.prog ops Q rest (a.put o.dst (.agg (ocs ⟨b, false, d32⟩).toArray)) w) : wpList Try.prog ops Q (o :: rest) a w := by
  refine wpList_plain hgd fun K hK => ?_
  unfold Oper.wp
  simp [execOp, ho, h0, run_build_old1 w b, Result.andThen]
  exact hK _ _ h
theorem wpList_old_build3 (hgd : o.guard = none) (x0 x1 x2 : Operand) (ho : o.op = .build 38 #[(0, x0), (1, x1), (2, x2)]) (y : Ol) (hy : OIn y) (h0 : a.eval x0 = .int .i64 y.b) (h1 : a.eval x1 = .bool y.has) (h2 : a.eval x2 = .agg (bs y.data).toArray)
    (h : wpList Try.prog ops Q rest (a.put o.dst (.agg (ocs y).toArray)) w) : wpList Try.prog ops Q (o :: rest) a w := by
  refine wpList_plain hgd fun K hK => ?_
  unfold Oper.wp
  simp [execOp, ho, h0, h1, h2, run_build_old3 w y hy, Result.andThen]
  exact hK _ _ h
theorem wpList_data_build (hgd : o.guard = none) (x0 : Operand) (ho : o.op = .build 36 #[(0, x0)]) (h0 : a.eval x0 = .int .u8 7)
    (h : wpList Try.prog ops Q rest (a.put o.dst (.agg (bs dK).toArray)) w) : wpList Try.prog ops Q (o :: rest) a w := by
  refine wpList_plain hgd fun K hK => ?_
  unfold Oper.wp
  simp [execOp, ho, h0, run_build_dK w, Result.andThen]
  exact hK _ _ h
end
/-- snapshots that the call made -/
structure Own (w wr : World) (d b c m : Nat) (all : List (List Ol)) (g : Nat) : Prop where
  sn : SnIs wr d b c m all g
  d : w.heap.size ≤ d
  b : w.heap.size ≤ b
  c : w.heap.size ≤ c
  below : Below w.heap.size w wr
section
variable {w wr w' : World} {d b c m : Nat} {all : List (List Ol)} {g : Nat}
theorem Own.on (h : Own w wr d b c m all g) (hb : Below wr.heap.size wr w') : Own w w' d b c m all g := ⟨h.sn.on hb, h.d, h.b, h.c, bthen h.below hb⟩
theorem Own.away (h : Own w wr d b c m all g) : ∀ k, k < w.heap.size → ¬ Tri d b c k := fun k hk => by
  have := h.d; have := h.b; have := h.c
  rintro (h | h | h) <;> omega
theorem Own.turn {m' g' : Nat} {all' : List (List Ol)} (h : Own w wr d b c m all g) (hs : SnIs w' d b c m' all' g') (hf : Fr (Tri d b c) wr w') : Own w w' d b c m' all' g' :=
  ⟨hs, h.d, h.b, h.c, h.below.trans (hf.below h.below.size h.away)⟩
end
set_option maxRecDepth 100000 in
set_option maxHeartbeats 4000000 in
theorem awake17_any (w : World) : Calls Try.prog 8 #[] w fun e w' => e = .returned (.bool true) ∧ Below w.heap.size w w' := by
  have hA1 := Lib.hid (ocs_len oA_in)
  have hB1 := Lib.hid (ocs_len oB_in)
  go_enter Try.func8, Try.ntmps8
  go_wp2_with fail
  refine (snew_any _).mono ?_
  rintro e w1 ⟨d, b, c, rfl, hs, q1, q2, q3, hb⟩
  have H1 : Hid (Own w w1 d b c 0 [] 0) := Lib.hid ⟨hs, q1, q2, q3, hb⟩
  clear hs q1 q2 q3 hb
  go_wp2_with (first
    | ((with_reducible refine wpList_old_build1 (o := ⟨some 10, .build _ _, _, _, _, _⟩) rfl _ rfl 3 rfl ?_))
    | ((with_reducible refine wpList_slice_one _ (o := ⟨some 11, .buildSlice _ _ _, _, _, _, _⟩) rfl 31 38 _ rfl _ 34 48 elemO (by decide) (ocs oA) hA1.out rfl ?_))
    | fail)
  have R1 := Lib.hid (rd_new w1 (ocs oA) 38 (0, 0))
  have B1 : Hid (Below w1.heap.size w1 (w1.alloc (.cells (ocs oA).toArray 38))) := Lib.hid ((Below.refl _ _).alloc (Nat.le_refl _) _)
  generalize w1.alloc _ = w2 at R1 B1 ⊢
  refine (commit_any d b c 0 [] 0 (some ⟨w1.heap.size, 0, none⟩) 1 1 [oA] w2 (H1.out.on B1.out).sn rfl (by simp [oA_in]) (by rw [ols_single]; exact R1.out) (by decide) (by decide)).mono ?_
  rintro e w3 ⟨rfl, hs, hf⟩
  have H3 : Hid (Own w w3 d b c 1 [[oA]] 0) := Lib.hid ((H1.out.on B1.out).turn hs hf)
  clear hs hf R1 B1
  go_wp2_with (first
    | ((with_reducible refine wpList_data_build (o := ⟨some 14, .build _ _, _, _, _, _⟩) rfl _ rfl rfl ?_))
    | ((with_reducible refine wpList_old_build3 (o := ⟨some 15, .build _ _, _, _, _, _⟩) rfl _ _ _ rfl oB oB_in rfl rfl rfl ?_))
    | ((with_reducible refine wpList_slice_one _ (o := ⟨some 16, .buildSlice _ _ _, _, _, _, _⟩) rfl 31 38 _ rfl _ 34 48 elemO (by decide) (ocs oB) hB1.out rfl ?_))
    | fail)
  have R1 := Lib.hid (rd_new w3 (ocs oB) 38 (0, 0))
  have B1 : Hid (Below w3.heap.size w3 (w3.alloc (.cells (ocs oB).toArray 38))) := Lib.hid ((Below.refl _ _).alloc (Nat.le_refl _) _)
  generalize w3.alloc _ = w4 at R1 B1 ⊢
  refine (commit_any d b c 1 [[oA]] 0 (some ⟨w3.heap.size, 0, none⟩) 1 1 [oB] w4 (H3.out.on B1.out).sn rfl (by simp [oB_in]) (by rw [ols_single]; exact R1.out) (by decide) (by decide)).mono ?_
  rintro e w5 ⟨rfl, hs, hf⟩
  have H5 : Hid (Own w w5 d b c 2 [[oA], [oB]] 0) := Lib.hid ((H3.out.on B1.out).turn hs hf)
  clear hs hf R1 B1
  go_wp2_with fail
  refine (read_any d b c 2 [[oA], [oB]] 0 3 0 w5 H5.out.sn (by decide) (by decide)).mono ?_
  rintro e w6 ⟨rfl, hb⟩
  have H6 := Lib.hid (H5.out.on hb)
  clear hb
  rw [show rdv [[oA], [oB]] 0 3 0 = .tuple #[.agg (ocs oA).toArray, .bool true] from rfl]
  go_wp2_with (first
    | ((with_reducible refine wpList_ol_alloc (o := ⟨some 2, .alloc _, _, _, _, _⟩) rfl rfl ?_); intro w7 x7 hB7 hs7; clear hs7)
    | ((with_reducible refine wpList_ol_store (o := ⟨none, .store _ (.tmp 2) _, _, _, _, _⟩) rfl _ _ rfl w6.heap.size oA ol0 oA_in ol0_in rfl rfl x7 ?_); go_loud (intro w8 x8 hg8 _; have K8 := below_stored hB7 hg8 hB7.size (Nat.le_refl _); have H8 := Lib.hid (And.intro (H6.out.on K8) x8); clear x7 hB7 hg8 x8 K8; generalize w6.heap.size = ba at *))
    | fail)
  refine (read_any d b c 2 [[oA], [oB]] 0 3 1 w8 H8.out.1.sn (by decide) (by decide)).mono ?_
  rintro e w9 ⟨rfl, hb⟩
  have H9 := Lib.hid (And.intro (H8.out.1.on hb) (H8.out.2.on hb))
  clear hb
  rw [show rdv [[oA], [oB]] 0 3 1 = .tuple #[.agg (ocs oB).toArray, .bool true] from rfl]
  go_wp2_with (first
    | ((with_reducible refine wpList_ol_alloc (o := ⟨some 4, .alloc _, _, _, _, _⟩) rfl rfl ?_); intro w7 x7 hB7 hs7; clear hs7)
    | ((with_reducible refine wpList_ol_store (o := ⟨none, .store _ (.tmp 4) _, _, _, _, _⟩) rfl _ _ rfl w9.heap.size oB ol0 oB_in ol0_in rfl rfl x7 ?_); go_loud (intro w10 x8 hg8 _; have K8 := below_stored hB7 hg8 hB7.size (Nat.le_refl _); have H10 := Lib.hid (And.intro (H9.out.1.on K8) (And.intro (H9.out.2.on K8) x8)); clear x7 hB7 hg8 x8 K8; generalize w9.heap.size = bb at *))
    | fail)
  refine (read_any d b c 2 [[oA], [oB]] 0 3 2 w10 H10.out.1.sn (by decide) (by decide)).mono ?_
  rintro e w11 ⟨rfl, hb⟩
  have H11 := Lib.hid (And.intro (H10.out.1.on hb) (And.intro (H10.out.2.1.on hb) (H10.out.2.2.on hb)))
  clear hb
  rw [show rdv [[oA], [oB]] 0 3 2 = .tuple #[.agg (ocs ol0).toArray, .bool false] from rfl]
  go_wp2_with (first
    | ((with_reducible refine wpList_ol_alloc (o := ⟨some 6, .alloc _, _, _, _, _⟩) rfl rfl ?_); intro w7 x7 hB7 hs7; clear hs7)
    | ((with_reducible refine wpList_ol_store (o := ⟨none, .store _ (.tmp 6) _, _, _, _, _⟩) rfl _ _ rfl w11.heap.size ol0 ol0 ol0_in ol0_in rfl rfl x7 ?_); go_loud (intro w12 x8 hg8 _; have K8 := below_stored hB7 hg8 hB7.size (Nat.le_refl _); have H12 := Lib.hid (And.intro (H11.out.1.on K8) (And.intro (H11.out.2.1.on K8) (H11.out.2.2.on K8))); clear x7 hB7 hg8 x8 K8))
    | fail)
  have a1 : w12.cell? ⟨ba, 1, none⟩ = some (.bool false) := H12.out.2.1.cell 1
  have b1 : w12.cell? ⟨bb, 1, none⟩ = some (.bool true) := H12.out.2.2.cell 1
  have b2 : w12.cell? ⟨bb, 2, none⟩ = some (.int .u8 7) := H12.out.2.2.cell 2
  refine (snow_any w12 H12.out.1.sn.raw).mono ?_
  rintro e w13 ⟨rfl, rfl⟩
  go_wp2_with fail
  refine (slast_any _ 3 (by decide) H12.out.1.sn.raw).mono ?_
  rintro e w13 ⟨rfl, rfl⟩
  rw [show ((lastN [[oA], [oB]] 3 [[oA], [oB]].length : Nat) : Int) = 2 from rfl]
  go_wp2_with fail
  refine (ssize_any _ H12.out.1.sn.raw).mono ?_
  rintro e w13 ⟨rfl, rfl⟩
  rw [show (((kept [[oA], [oB]] 0).length : Nat) : Int) = 2 from rfl]
  go_wp2
  go_ret
  exact ⟨rfl, H12.out.1.below⟩
end Go.Proofs.Ytjjomfpkdbfhdaa

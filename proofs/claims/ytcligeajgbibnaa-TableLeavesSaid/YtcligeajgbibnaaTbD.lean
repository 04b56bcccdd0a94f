/-
  Package table: Clean, Count, Places, Dirty, Leaves.
-/
import Derived.Test.YtcligeajgbibnaaTbC
namespace Go.Proofs.Ytcligeajgbibnaa
open Go.RowKit Leaf Tbl
set_option linter.unusedVariables false

theorem Box.rd {w : World} {b B : Nat} {T : TypeId} {cs : List Value} (h : Box w b T cs) (hB : b < B) : Rd w B (some ⟨b, 0, none⟩) cs := fun _ => ⟨_, rfl, hB, fun j u hu => by
  rw [Addr.add_mid, Nat.zero_add]
  exact (h.cell j).trans hu⟩
namespace Tbl
/-- how many of the first k places aren't 0 -/
def cntT (ys : List Int) (k : Nat) : Nat := ((List.range k).filter (fun i => ys.getD i 0 != 0)).length
theorem cntT_le (ys : List Int) (k : Nat) : cntT ys k ≤ k := by
  have := List.length_filter_le (fun i => ys.getD i 0 != 0) (List.range k)
  unfold cntT
  simp at this ⊢
  omega
theorem cntT_yes {ys : List Int} {k : Nat} (h : ys.getD k 0 ≠ 0) : cntT ys (k + 1) = cntT ys k + 1 := by
  unfold cntT
  rw [List.range_succ, List.filter_append, List.length_append]
  have : (ys.getD k 0 != 0) = true := by simpa using h
  simp only [List.filter_cons, this, if_true, List.filter_nil, List.length_cons, List.length_nil]
theorem cntT_no {ys : List Int} {k : Nat} (h : ys.getD k 0 = 0) : cntT ys (k + 1) = cntT ys k := by
  unfold cntT
  rw [List.range_succ, List.filter_append, List.length_append]
  have : (ys.getD k 0 != 0) = false := by rw [h]; rfl
  simp only [List.filter_cons, this, List.filter_nil]
  simp
/-- the numbers of those that are true among the first k -/
def idxs (ds : List Bool) (k : Nat) : List Int := ((List.range k).filter (fun i => ds.getD i false)).map (fun i : Nat => (i : Int))
theorem idxs_zero (ds : List Bool) : idxs ds 0 = [] := rfl
theorem idxs_yes {ds : List Bool} {k : Nat} (h : ds.getD k false = true) : idxs ds (k + 1) = idxs ds k ++ [(k : Int)] := by
  unfold idxs
  rw [List.range_succ, List.filter_append, List.map_append]
  simp only [List.filter_cons, h, if_true, List.filter_nil, List.map_cons, List.map_nil]
theorem idxs_no {ds : List Bool} {k : Nat} (h : ds.getD k false = false) : idxs ds (k + 1) = idxs ds k := by
  unfold idxs
  rw [List.range_succ, List.filter_append, List.map_append]
  simp only [List.filter_cons, h, Bool.false_eq_true, if_false, List.filter_nil, List.map_nil, List.append_nil]
theorem idxs_length (ds : List Bool) (k : Nat) : (idxs ds k).length ≤ k := by
  have := List.length_filter_le (fun i => ds.getD i false) (List.range k)
  unfold idxs
  simp at this ⊢
  omega
/-- the leaves of a table, as those of the checkpoint gen -/
def lfOf (ys : List Int) (gen : Int) (q : Nat) : Lf := ⟨gen, q, leafOf ys q⟩
def lfsOf (ys : List Int) (gen : Int) (P : Nat) : List Lf := (List.range P).map (lfOf ys gen)
end Tbl
def lfls (ls : List Lf) : List Value := ls.flatMap lcs
theorem lfls_cons (l : Lf) (ls : List Lf) : lfls (l :: ls) = lcs l ++ lfls ls := by simp [lfls]
theorem lfls_append (a b : List Lf) : lfls (a ++ b) = lfls a ++ lfls b := by simp [lfls]
theorem lfls_length {ls : List Lf} (h : ∀ l ∈ ls, In l) : (lfls ls).length = ls.length * 12 := by
  induction ls with
  | nil => rfl
  | cons l ls ih =>
    rw [lfls_cons, List.length_append, ih (fun x hx => h x (List.mem_cons_of_mem _ hx)), lcs_length (h l List.mem_cons_self), List.length_cons]
    omega
theorem lfls_one (ls : List Lf) : ∀ u ∈ lfls ls, u.oneCell' = true := by
  intro u hu
  obtain ⟨l, _, h⟩ := List.mem_flatMap.1 hu
  exact lcs_one l u h
theorem lay_mid {α : Type} {A B C vs : List α} {o : Nat} (hA : A.length = o) (hB : B.length = vs.length) : lay (A ++ (B ++ C)) o vs = A ++ (vs ++ C) := by
  subst hA
  unfold lay
  rw [List.take_left, ← hB, List.drop_append, List.drop_eq_nil_of_le (by omega), show A.length + B.length - A.length = B.length by omega, List.drop_left, List.nil_append, List.append_assoc]
/-- the first k leaves laid, the others zero -/
def lfTo (ls : List Lf) (k : Nat) : List Lf := ls.take k ++ List.replicate (ls.length - k) lf0
theorem lfTo_zero (ls : List Lf) : lfTo ls 0 = List.replicate ls.length lf0 := by simp [lfTo]
theorem lfTo_all (ls : List Lf) : lfTo ls ls.length = ls := by simp [lfTo]
theorem lfTo_in {ls : List Lf} (h : ∀ l ∈ ls, In l) (k : Nat) : ∀ l ∈ lfTo ls k, In l := by
  intro l hl
  rcases List.mem_append.1 hl with h1 | h1
  · exact h l (List.mem_of_mem_take h1)
  · rw [List.eq_of_mem_replicate h1]; exact lf0_in
theorem lfTo_length {ls : List Lf} {k : Nat} (hk : k ≤ ls.length) : (lfTo ls k).length = ls.length := by simp [lfTo]; omega
theorem lfTo_lay {ls : List Lf} (h : ∀ l ∈ ls, In l) {k : Nat} {l : Lf} (hl : ls[k]? = some l) : lay (lfls (lfTo ls k)) (k * 12) (lcs l) = lfls (lfTo ls (k + 1)) := by
  obtain ⟨hk, rfl⟩ := List.getElem?_eq_some_iff.1 hl
  have e1 : ls.length - k = (ls.length - (k + 1)) + 1 := by omega
  unfold lfTo
  rw [e1, List.replicate_succ, lfls_append, lfls_cons, lay_mid ?_ ?_, List.take_succ_eq_append_getElem hk, lfls_append, lfls_append, lfls_cons]
  · simp [lfls]
  · rw [lfls_length (fun x hx => h x (List.mem_of_mem_take hx)), List.length_take]
    congr 1
    omega
  · rw [lcs_length lf0_in, lcs_length (h _ (List.getElem_mem hk))]
theorem lfsOf_in {ys : List Int} {gen : Int} {n : Nat} (hy : ys.length = 10 * pages n) : ∀ l ∈ lfsOf ys gen (pages n), In l := by
  intro l hl
  obtain ⟨q, hq, rfl⟩ := List.mem_map.1 hl
  exact leafOf_length hy (by simpa using hq)
theorem lfsOf_length (ys : List Int) (gen : Int) (P : Nat) : (lfsOf ys gen P).length = P := by simp [lfsOf]
theorem lfsOf_get {ys : List Int} {gen : Int} {P q : Nat} (h : q < P) : (lfsOf ys gen P)[q]? = some (lfOf ys gen q) := by simp [lfsOf, h]

theorem make_ints (w : World) (m : Nat) (hm : m ≤ 100000) :
    (Instr.makeSlice 26 (.int .i64 (m : Int)) (.int .i64 (m : Int))).run Try.prog w = .ok (rowAt w.heap.size m) (w.alloc (.cells (is (List.replicate m 0)).toArray 3)) := by
  obtain ⟨i, hi, hz, hs, hb⟩ := info_parts (P := Try.prog) (e := 3) (z := .int .i64 0) (size := 1) (bytes := 8) (by kernel_rfl)
  have hr := run_make (P := Try.prog) w 26 3 i _ Try.underlying26 hi hz .i64 .i64 m m (by omega) (Int.le_refl _) (by rw [hb]; omega) (by omega)
  have e : (madeCells #[Value.int .i64 0] m) = (is (List.replicate m 0)).toArray := by
    apply Array.ext_getElem?
    intro i
    by_cases hi : i < m
    · simp [madeCells, is, hi, Nat.mod_one]
    · simp [madeCells, is, hi]
  rw [hr, hs, Int.toNat_natCast, show (Value.int .i64 0).cells = #[Value.int .i64 0] from rfl, Nat.mul_one, e]
theorem lfls_rep (m : Nat) : ∀ i, i < m * 12 → (lfls (List.replicate m lf0))[i]? = some (.int .i64 0) := by
  have e : ∀ m, lfls (List.replicate m lf0) = List.replicate (m * 12) (Value.int .i64 0) := by
    intro m
    induction m with
    | zero => rfl
    | succ m ih => rw [List.replicate_succ, lfls_cons, ih, show (m + 1) * 12 = 12 + m * 12 by omega, ← List.replicate_append_replicate]; rfl
  intro i hi
  rw [e]
  simp [hi]
theorem make_lfs (w : World) (m : Nat) (hm : m ≤ 1000) :
    (Instr.makeSlice 37 (.int .i64 (m : Int)) (.int .i64 (m : Int))).run Try.prog w = .ok (rowAt w.heap.size m) (w.alloc (.cells (lfls (List.replicate m lf0)).toArray 50)) := by
  obtain ⟨i, hi, hz, hs, hb⟩ := info_parts (P := Try.prog) (e := 50) (z := .agg (lcs lf0).toArray) (size := 12) (bytes := 96) (by kernel_rfl)
  have hr := run_make (P := Try.prog) w 37 50 i _ Try.underlying37 hi hz .i64 .i64 m m (by omega) (Int.le_refl _) (by rw [hb]; omega) (by omega)
  have hin : ∀ l ∈ List.replicate m lf0, In l := fun l hl => by rw [List.eq_of_mem_replicate hl]; exact lf0_in
  have hz12 : ∀ k, k < 12 → (lcs lf0).toArray[k]! = Value.int .i64 0 := fun k hk => by
    have e2 : lcs lf0 = List.replicate 12 (Value.int .i64 0) := rfl
    rw [e2]
    generalize (12 : Nat) = m12 at hk ⊢
    simp [hk]
  have e : (madeCells (lcs lf0).toArray (m * 12)) = (lfls (List.replicate m lf0)).toArray := by
    have e3 : (lcs lf0).toArray.size = 12 := rfl
    apply Array.ext_getElem?
    intro i
    by_cases hi : i < m * 12
    · have e4 := hz12 _ (Nat.mod_lt i (by decide : 0 < 12))
      have e5 := lfls_rep m i hi
      generalize lfls (List.replicate m lf0) = Y at e5 ⊢
      generalize lcs lf0 = Z at e3 e4 ⊢
      have e6 : Y.toArray[i]? = some (Value.int .i64 0) := by simpa using e5
      rw [e6]
      simp [madeCells, hi, e3]
      simpa using e4
    · have e5 : (lfls (List.replicate m lf0)).length = m * 12 := by rw [lfls_length hin, List.length_replicate]
      generalize lfls (List.replicate m lf0) = Y at e5 ⊢
      have h1 : Y.toArray[i]? = none := by simp; omega
      have h2 : (madeCells (lcs lf0).toArray (m * 12))[i]? = none := by
        apply Array.getElem?_eq_none
        rw [size_madeCells]
        omega
      rw [h1, h2]
  rw [hr, hs, Int.toNat_natCast, show (Value.agg (lcs lf0).toArray).cells = (lcs lf0).toArray from rfl, e]

theorem tclean_any {d g h n : Nat} {ys : List Int} {ds : List Bool} (w : World) (t : TbIs w d g h n ys ds) :
    Calls Try.prog 11 #[tp d] w fun e w' => e = .returned (.tuple #[]) ∧ TbIs w' d g h n ys (List.replicate (pages n) false) ∧ Fr (TbT g h) w w' := by
  obtain ⟨c1, c2⟩ := t.rows
  have HT := Lib.hid t
  have hdt := t.dt
  have hdl : (bls ds).length = pages n := by rw [List.length_map]; exact t.hd
  have hz : ∀ w, (zeroValue 4).run Try.prog w = .ok (.bool false) w := by intro w; go_simp
  clear t
  go_enter Try.func11, Try.ntmps11
  go_wp2_with (first
    | ((with_reducible refine wpList_clear_box _ (o := ⟨none, .call _, _, _, _, _⟩) rfl _ 56 4 rfl Try.underlying56 (.bool false) hz rfl rfl h (pages n) _ _ rfl hdl hdt ?_); intro w1 x1 hg1 hs1; have T1 : Hid (TbIs w1 d g h n ys (List.replicate (pages n) false)) := Lib.hid (by
        obtain ⟨q1, q2, q3⟩ := HT.out.apart
        exact ⟨HT.out.tb.grown hg1 q2, HT.out.lv.grown hg1 q3, by rw [show bls (List.replicate (pages n) false) = List.replicate (pages n) (Value.bool false) from List.map_replicate]; exact x1, HT.out.hn, HT.out.hy, by simp⟩); have F1 := Lib.hid (Fr.of_grown (T := TbT g h) hg1 (fun k e => by injection e with e; exact .inr e.symm)); clear x1 hg1 hs1)
    | fail)
  go_end0
  exact ⟨rfl, T1.out, F1.out⟩
set_option maxRecDepth 100000 in
theorem tcount_any {d g h n : Nat} {ys : List Int} {ds : List Bool} (w : World) (t : TbIs w d g h n ys ds) :
    Calls Try.prog 17 #[tp d] w fun e w' => e = .returned (.int .i64 (cntT ys n : Int)) ∧ w = w' := by
  have c0 := t.num
  have HG := Lib.hid fun b : Int => tget_any w b t
  have hn := t.hn
  clear t
  go_enter Try.func17, Try.ntmps17
  go_wp2
  go_loopw [3, 9] (fun c i wr => ∃ k : Nat, k ≤ n ∧ i = .int .i64 k ∧ c = .int .i64 (cntT ys k : Int) ∧ w = wr) (fun _ i _ => n - (intOf i).toNat)
  case atStart => exact ⟨0, by omega, rfl, rfl, rfl⟩
  case round =>
    obtain ⟨k, hk, rfl, rfl, rfl⟩ := hrel
    have hcl := cntT_le ys k
    by_cases hlt : k < n
    · have HV := Lib.hid (getT_nat (ys := ys) hlt)
      by_cases hz : ys.getD k 0 = 0
      · have HC := Lib.hid (cntT_no hz)
        have hv : getT n ys k = 0 := HV.out.trans hz
        clear hz
        generalize hcv : cntT ys k = cv at *
        have HCV := Lib.hid hcv
        clear hcv
        go_wp2_with fail
        refine (HG.out k).mono ?_
        rintro e w' ⟨rfl, rfl⟩
        go_wp2
        go_roundw
        case rel => exact ⟨k + 1, by omega, by go_num, by rw [HC.out], by first | rfl | trivial⟩
        case measure => simp [intOf]; omega
      · have HC := Lib.hid (cntT_yes hz)
        have hv : (getT n ys k != 0) = true := by rw [HV.out]; simpa using hz
        have hv2 : ¬ getT n ys k = 0 := by rw [HV.out]; exact hz
        clear hz
        generalize hcv : cntT ys k = cv at *
        have HCV := Lib.hid hcv
        clear hcv
        go_wp2_with fail
        refine (HG.out k).mono ?_
        rintro e w' ⟨rfl, rfl⟩
        go_wp2
        go_roundw
        case rel => exact ⟨k + 1, by omega, by go_num, by rw [HC.out]; go_num, by first | rfl | trivial⟩
        case measure => simp [intOf]; omega
    · obtain rfl : n = k := by omega
      go_wp2
      go_ret
      exact ⟨rfl, rfl⟩
end Go.Proofs.Ytcligeajgbibnaa

/-
  Package table: Places, Dirty, Leaves.
-/
import Derived.Test.YtcligeajgbibnaaTbD
namespace Go.Proofs.Ytcligeajgbibnaa
open Go.RowKit Leaf Tbl
set_option linter.unusedVariables false

theorem elemI : Elem Try.prog 26 3 (.int .i64 0) 1 8 := Elem.of Try.underlying26 (by kernel_rfl) rfl (by decide)
theorem is_append (a b : List Int) : is (a ++ b) = is a ++ is b := by simp [is]
theorem is_one1 (x : Int) : is [x] = [.int .i64 x] := rfl
set_option maxRecDepth 100000 in
theorem tplaces_any {d g h n : Nat} {ys : List Int} {ds : List Bool} (w : World) (t : TbIs w d g h n ys ds) :
    Calls Try.prog 15 #[tp d] w fun e w' => ∃ b, e = .returned (rowAt b n) ∧ Box w' b 3 (is (ys.take n)) ∧ w.heap.size ≤ b ∧ Below w.heap.size w w' := by
  have c0 := t.num
  have HT := Lib.hid t
  have hn := t.hn
  have hyn : n ≤ ys.length := by rw [t.hy]; exact pages_up n
  have HY := Lib.hid (show (ys.take n).length = n by simp; omega)
  have hmk := fun w' => make_ints w' n (by omega)
  have HS : Hid (∀ k, k < n → getT n ys k = (ys.take n).getD k 0) := Lib.hid fun k hk => by
    rw [getT_nat hk, List.getD_eq_getElem?_getD, List.getD_eq_getElem?_getD, List.getElem?_take, if_pos hk]
  clear t hyn
  generalize ys.take n = zs at *
  go_enter Try.func15, Try.ntmps15
  go_wp2
  have HB := Lib.hid (Box.new w 3 (is (List.replicate n 0)))
  have HL := Lib.hid ((Below.refl w.heap.size w).alloc (Nat.le_refl _) (.cells (is (List.replicate n 0)).toArray 3 (0, 0)))
  generalize hW : w.alloc (.cells (is (List.replicate n 0)).toArray 3) = w1 at *
  clear hW hmk
  generalize hb : w.heap.size = b at *
  have Hb := Lib.hid hb
  clear hb
  go_loopw [12] (fun i wr => ∃ k : Nat, k ≤ n ∧ i = .int .i64 k ∧ Box wr b 3 (is (mix zs (List.replicate n 0) k)) ∧ Below b w wr) (fun i _ => n - (intOf i).toNat)
  case atStart => exact ⟨0, by omega, rfl, by rw [mix_zero]; exact HB.out, HL.out⟩
  case round =>
    clear HB HL
    obtain ⟨k, hk, rfl, hbx, hbl⟩ := hrel
    by_cases hlt : k < n
    · have HV := Lib.hid (HS.out k hlt)
      have HX := Lib.hid hbx
      have HBl := Lib.hid hbl
      have HT2 := Lib.hid (HT.out.on (by rw [Hb.out]; exact hbl))
      have HG := Lib.hid (tget_any wr k HT2.out)
      have hml : (mix zs (List.replicate n 0) k).length = n := by rw [mix_length (by simp [HY.out]) (by simpa using hk)]; simp
      have ck := (hbx.cell k).trans (is_get (by rw [hml]; exact hlt))
      have fk := hbx.frozen k
      have HX2 : Hid (Box (wr.setCell ⟨b, k, none⟩ (.int .i64 (getT n ys k))) b 3 (is (mix zs (List.replicate n 0) (k + 1)))) := Lib.hid (by
        rw [← mix_set (by simp [HY.out]) (by simpa using hlt), is_set, HV.out]
        exact hbx.set _ _)
      have HB2 : Hid (Below b w (wr.setCell ⟨b, k, none⟩ (.int .i64 (getT n ys k)))) := Lib.hid (hbl.setCell (Nat.le_refl _) _)
      clear hbx hbl hml HV
      generalize getT n ys (k : Int) = V at *
      go_wp2_with fail
      refine HG.out.mono ?_
      rintro e w' ⟨rfl, rfl⟩
      go_wp2
      go_roundw
      case rel => exact ⟨k + 1, by omega, by go_num, HX2.out, HB2.out⟩
      case measure => simp [intOf]; omega
    · obtain rfl : n = k := by omega
      have HX := Lib.hid hbx
      have HBl := Lib.hid hbl
      clear hbx hbl
      go_wp2
      go_ret
      refine ⟨b, rfl, ?_, by rw [Hb.out]; exact Nat.le_refl _, by rw [Hb.out]; exact HBl.out⟩
      have := HX.out
      rwa [mix_all (by simp [HY.out]) (by simp)] at this
set_option maxRecDepth 100000 in
theorem tdirty_any {d g h n : Nat} {ys : List Int} {ds : List Bool} (w : World) (t : TbIs w d g h n ys ds) :
    Calls Try.prog 16 #[tp d] w fun e w' => ∃ V, e = .returned V ∧ w'.ownsRow w.heap.size 3 1 V (idxs ds (pages n)).length (is (idxs ds (pages n))) ∧ Below w.heap.size w w' := by
  obtain ⟨c1, c2⟩ := t.rows
  have HT := Lib.hid t
  have hp := pages_le t.hn
  clear t
  generalize hP : pages n = P at *
  have HP := Lib.hid hP
  clear hP
  go_enter Try.func16, Try.ntmps16
  go_wp2
  go_loopw [3, 11] (fun o i wr => ∃ k : Nat, k ≤ P ∧ i = .int .i64 k ∧ wr.ownsRow w.heap.size 3 1 o (idxs ds k).length (is (idxs ds k)) ∧ Below w.heap.size w wr) (fun _ i _ => P - (intOf i).toNat)
  case atStart => exact ⟨0, by omega, rfl, World.ownsRow_nil _ _ _ _, Below.refl _ _⟩
  case round =>
    obtain ⟨k, hk, rfl, hown, hbl⟩ := hrel
    by_cases hlt : k < P
    · have ck := (HT.out.on hbl).flag (k := k) (by rw [HP.out]; exact hlt)
      have hki : (k : Int) < (P : Int) := by omega
      have hql := idxs_length ds k
      have hsz' := hbl.size
      cases hb : ds.getD k false
      · rw [hb] at ck
        have HF := Lib.hid (idxs_no hb)
        have HO := Lib.hid (And.intro hown hbl)
        clear hown hbl hb hsz' hql
        go_wp2
        go_roundw
        case rel => exact ⟨k + 1, by omega, by go_num, by rw [HF.out]; exact HO.out.1, HO.out.2⟩
        case measure => first | (simp [intOf]; done) | (simp [intOf]; omega)
      · rw [hb] at ck
        have HF := Lib.hid (idxs_yes hb)
        have HQ := Lib.hid hql
        clear hb hql
        go_wp2_with (at_builtin; go_loud (refine wpList_append_one _ rfl _ _ _ rfl w.heap.size 3 _ 8 elemI u3 (idxs ds k).length _ rfl _ rfl hown rfl (by have := HQ.out; simp only [maxLen]; omega) (by have := HQ.out; omega) hsz' ?_); intro v1 w1 hown1 hg1; have HO := Lib.hid (And.intro hown1 (hbl.grown hg1 hsz' fun g hg => (hown.lt g hg).1)); clear hown1 hg1)
        go_roundw
        case rel =>
          refine ⟨k + 1, by omega, by go_num, ?_, HO.out.2⟩
          rw [HF.out, List.length_append, is_append, is_one1]
          exact HO.out.1
        case measure => first | (simp [intOf]; done) | (simp [intOf]; omega)
    · obtain rfl : P = k := by omega
      have HO := Lib.hid (And.intro hown hbl)
      clear hown hbl
      go_wp2
      go_ret
      exact ⟨_, rfl, HO.out.1, HO.out.2⟩
end Go.Proofs.Ytcligeajgbibnaa

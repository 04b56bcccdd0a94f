/-
  Package page: Lay.
-/
import Derived.Test.YtoehflalpidhfaaLfC
import Derived.Test.YtoehflalpidhfaaCrcC
import Derived.Test.YtoehflalpidhfaaTail
import Derived.Laws.Cover3
namespace Go.Proofs.Ytoehflalpidhfaa
open Go.RowKit Word Crc Leaf
set_option linter.unusedVariables false

/-- what stands in memory while Lay works -/
def LfSt (w W : World) (l : Lf) (p : List Int) : Prop :=
  Box W w.heap.size 49 (lcs l) ∧ Box W (w.heap.size + 1) 28 (bs pg0) ∧ Box W (w.heap.size + 1 + 1) 28 (bs p) ∧ Below w.heap.size w W ∧ p.length = 64
theorem LfSt.drew {w W : World} {l : Lf} {p : List Int} (h : LfSt w W l p) : LfSt w W.drew l p := ⟨h.1, h.2.1, h.2.2.1, h.2.2.2.1.drew, h.2.2.2.2⟩
theorem LfSt.begin {w w1 w2 w3 : World} {l : Lf} (x0 : Box w1 w.heap.size 49 (lcs l)) (hB1 : Below w.heap.size w w1) (hs1 : w1.heap.size = w.heap.size + 1) (x1 : Box w2 w1.heap.size 28 (bs pg0)) (hB2 : Below w1.heap.size w1 w2) (hs2 : w2.heap.size = w1.heap.size + 1)
    (x2 : Box w3 w2.heap.size 28 (bs pg0)) (hB3 : Below w2.heap.size w2 w3) :
    LfSt w (w3.setCell ⟨w.heap.size + 1 + 1, 0, none⟩ (.int .u8 128)) l (pg0.set 0 128) ∧ w3.cell? ⟨w.heap.size + 1 + 1, 0, none⟩ = some (.int .u8 0) ∧ w3.frozen? ⟨w.heap.size + 1 + 1, 0, none⟩ = false := by
  rw [hs2, hs1] at x2
  rw [hs1] at x1
  have y0 := (x0.below hB2 (by omega)).below hB3 (by omega)
  have e : ∀ x, x ≠ w.heap.size + 1 + 1 → (w3.setCell ⟨w.heap.size + 1 + 1, 0, none⟩ (.int .u8 128)).heap[x]? = w3.heap[x]? := fun x hx => heap_setCell_other _ _ _ _ hx
  refine ⟨⟨y0.same (e _ (by omega)), (x1.below hB3 (by omega)).same (e _ (by omega)), ?_, (bthen (bthen hB1 hB2) hB3).setCell (by show w.heap.size ≤ w.heap.size + 1 + 1; omega) _, by simp⟩, (x2.cell 0).trans rfl, x2.frozen 0⟩
  have := x2.set 0 (.int .u8 128)
  rwa [← bs_set] at this
theorem LfSt.put {w W W' : World} {l : Lf} {p p' : List Int} (h : LfSt w W l p) (hb : Box W' (w.heap.size + 1 + 1) 28 (bs p')) (hg : W.grownBy W' (some (w.heap.size + 1 + 1))) (hl : p'.length = 64) : LfSt w W' l p' :=
  ⟨h.1.grown hg (by omega), h.2.1.grown hg (by omega), hb, below_stored h.2.2.2.1 hg h.2.2.2.1.size (by omega), hl⟩
theorem lput_any (g at_ n : Nat) (x : Int) (zs : List Int) (w : World) (h8 : n ≤ 8) (hn : 1 ≤ n) (hf : at_ + n ≤ 64) (hl : zs.length = 64) (hb : Box w g 28 (bs zs)) :
    Calls Try.prog 47 #[.slice (some ⟨g, 0, none⟩) 64 64, .int .i64 at_, .int .i64 n, .int .u64 x] w fun ee w' => ee = .returned (.bool true) ∧ Box w' g 28 (bs (put zs at_ n x)) ∧ w.grownBy w' (some g) :=
  (put_yes (e := 28) g g 64 64 at_ n x w (by decide) h8 hn hf zs (hb.own (by rw [bs_length, hl]) (by decide) g (Nat.le_refl _))).mono fun e w' h => ⟨h.1, Box.of_own h.2.1 (by omega), h.2.2⟩

set_option maxRecDepth 100000 in
set_option maxHeartbeats 2000000 in
theorem lflay_any (l : Lf) (w : World) (hk : Ok l) (hi : In l) :
    Calls Try.prog 25 #[.agg (lcs l).toArray] w fun e w' => e = .returned (.agg (bs (layL l)).toArray) ∧ Below w.heap.size w w' := by
  obtain ⟨m, hm, hsz⟩ := big_size (P := Try.prog) (t := 28) (s := 64) (by kernel_rfl)
  obtain ⟨mt, hmt, hszt⟩ := big_size (P := Try.prog) (t := 47) (s := 10) (by kernel_rfl)
  have hm0 : ¬ m = 0 := by omega
  have hmt0 : ¬ mt = 0 := by omega
  have HM := Lib.hid (And.intro hm hmt)
  have HI := Lib.hid hi
  have HK := Lib.hid hk
  have HX := Lib.hid fun w' (k : Nat) (hk : k < 10) => run_index_is w' 47 3 10 l.places k Try.underlying47 Try.underlying3 size_int hi hk
  clear hm hmt hi hk
  go_enter Try.func25, Try.ntmps25
  go_wp2_with (first
    | ((with_reducible refine wpList_lf_box (o := ⟨some 1, .box _ _, _, _, _, _⟩) rfl _ rfl l rfl ?_); intro w1 x0 hB1 hs1)
    | ((with_reducible refine wpList_pg_alloc (o := ⟨some 2, .alloc _, _, _, _, _⟩) rfl rfl ?_); intro w2 x1 hB2 hs2)
    | ((with_reducible refine wpList_pg_alloc (o := ⟨some 3, .alloc _, _, _, _, _⟩) rfl rfl ?_); intro w3 x2 hB3 hs3; obtain ⟨L, p0, f0⟩ := LfSt.begin x0 hB1 hs1 x1 hB2 hs2 x2 hB3; rw [hs2, hs1]; clear hs1 hs2 hs3 x0 x1 x2 hB1 hB2 hB3)
    | fail)
  clear p0 f0
  generalize w3.setCell _ _ = W at L ⊢
  -- gen
  refine wp_region_class_tail (fun w' => LfSt w w' l (pg0.set 0 128)) 4 (by kernel_rfl) (by kernel_rfl) L.drew ?_
  intro X hX f hf hg
  have c0 := fun x => (hf x).1.lf.1
  have h1 := HK.out.1
  have Hf := Lib.hid hf
  clear hf hg L
  simp only [List.take_succ_cons, List.take_zero, List.drop_succ_cons, List.drop_zero, Act.put, List.setIfInBounds_toArray, List.set_cons_succ, List.set_cons_zero]
  repeat (go_big_quiet_step (fail))
  refine wpQuiet_nil ?_
  rintro _ ⟨x, rfl⟩
  have L := Hf.out x
  clear c0 Hf
  generalize f x = W2 at L ⊢
  clear hX
  go_wp2_with fail
  refine (lput_any (w.heap.size + 1 + 1) 1 8 l.gen (pg0.set 0 128) W2 (by omega) (by omega) (by omega) L.2.2.2.2 L.2.2.1).mono ?_
  rintro e w4 ⟨rfl, hb, hg⟩
  rw [stage_gen] at hb
  replace L := L.put hb hg (by simp [le_length])
  clear hb hg h1
  generalize w4 = W at L ⊢
  -- index
  go_wp2_with fail
  refine wp_region_class_tail (fun w' => LfSt w w' l ([128] ++ le 8 l.gen ++ List.replicate 55 0)) 4 (by kernel_rfl) (by kernel_rfl) L.drew ?_
  intro X hX f hf hg
  have c0 := fun x => (hf x).1.lf.2
  have h1 := HK.out.2.1
  have Hf := Lib.hid hf
  clear hf hg L
  simp only [List.take_succ_cons, List.take_zero, List.drop_succ_cons, List.drop_zero, Act.put, List.setIfInBounds_toArray, List.set_cons_succ, List.set_cons_zero]
  repeat (go_big_quiet_step (fail))
  refine wpQuiet_nil ?_
  rintro _ ⟨x, rfl⟩
  have L := Hf.out x
  clear c0 Hf
  generalize f x = W2 at L ⊢
  clear hX
  go_wp2_with fail
  refine (lput_any (w.heap.size + 1 + 1) 9 4 l.index ([128] ++ le 8 l.gen ++ List.replicate 55 0) W2 (by omega) (by omega) (by omega) L.2.2.2.2 L.2.2.1).mono ?_
  rintro e w4 ⟨rfl, hb, hg⟩
  rw [stage_index] at hb
  replace L := L.put hb hg (stage_length l HI.out 0 (by omega))
  clear hb hg h1
  generalize w4 = W at L ⊢
  -- places
  have hld := big_load0 Try.prog w.heap.size 2 (is l.places) mt (by rw [is_length, HI.out, HM.out.2]) _ L.1.lfPlaces
  have HL := Lib.hid L
  clear L
  generalize hP : is l.places = P at *
  have HP := Lib.hid hP
  clear hP
  go_wp2_with fail
  go_loopw [19] (fun i wr => ∃ k : Nat, k ≤ 10 ∧ i = .int .i64 k ∧ LfSt w wr l (stage l k)) (fun i _ => 10 - (intOf i).toNat)
  case atStart => exact ⟨0, by omega, rfl, HL.out⟩
  case round =>
    clear HL hld
    obtain ⟨k, hk, rfl, L⟩ := hrel
    by_cases hlt : k < 10
    · have hix := fun w' => HX.out w' k hlt
      have HPl := Lib.hid (HK.out.2.2 _ (getD_mem (show k < l.places.length by rw [HI.out]; exact hlt)))
      have h1 := HPl.out
      have HS := Lib.hid (stage_place l HI.out k hlt)
      generalize hx : l.places.getD k 0 = x at *
      have HXe := Lib.hid hx
      clear hx
      have hcut := cut32_yes h1
      go_wp2_with fail
      refine wp_region_class_tail (fun w' => LfSt w w' l (stage l k)) 6 (by kernel_rfl) (by kernel_rfl) L.drew ?_
      intro X hX f hf hg
      have HPA := Lib.hid fun w' => placeAt_any k w' hk
      have hp0 := h1.1
      have hp1 := h1.2
      have Hf := Lib.hid hf
      clear hf hg L
      simp only [List.take_succ_cons, List.take_zero, List.drop_succ_cons, List.drop_zero, Act.put, List.setIfInBounds_toArray, List.set_cons_succ, List.set_cons_zero]
      repeat (go_big_quiet_step ((go_at_call 48; exact calls_class (HPA.out _) (fun _ h => ⟨_, h.symm⟩))))
      refine wpQuiet_nil ?_
      rintro _ ⟨y, rfl⟩
      have L := Hf.out y
      clear Hf
      generalize f y = W2 at L ⊢
      clear hX
      go_wp2_with fail
      refine (lput_any (w.heap.size + 1 + 1) (13 + 4 * k) 4 x (stage l k) W2 (by omega) (by omega) (by omega) L.2.2.2.2 L.2.2.1).mono ?_
      rintro e w4 ⟨rfl, hb, hg⟩
      rw [HS.out] at hb
      have HL := Lib.hid (L.put hb hg (stage_length l HI.out (k + 1) (by omega)))
      clear hb hg L
      go_wp2
      go_roundw
      case rel => exact ⟨k + 1, by omega, by go_num, HL.out⟩
      case measure => simp [intOf]; omega
    · obtain rfl : k = 10 := by omega
      have HO := Lib.hid (front_octets l)
      have h60 := Lib.hid (front_length l HI.out)
      have HLL := Lib.hid (layL_length l HI.out)
      have hrd : Rd wr wr.heap.size (some ⟨w.heap.size + 1 + 1, 0, none⟩) (bs (front l)) := by
        have := (Rd.own (L.2.2.1.own (n := 64) (by rw [bs_length, L.2.2.2.2]) (by decide) 0 (Nat.zero_le _))).front (k := 60)
        rwa [← bs_take, stage_end l HI.out] at this
      have HSe := Lib.hid (seal_any (some ⟨w.heap.size + 1 + 1, 0, none⟩) 60 64 (front l) wr (by decide) h60.out HO.out hrd)
      have HL := Lib.hid L
      clear L hrd HX
      go_wp2_with fail
      refine HSe.out.mono ?_
      rintro e w5 ⟨A', c', rfl, hown, hb5⟩
      clear HSe
      have hown : w5.ownsRow wr.heap.size 5 1 (.slice A' 64 c') 64 (bs (layL l)) := hown
      obtain ⟨g, rfl, _, _⟩ := own_at hown (by omega)
      have HB := Lib.hid (bthen HL.out.2.2.2.1 hb5)
      have HX := Lib.hid (HL.out.2.1.on hb5)
      generalize hS : layL l = S at *
      have HS2 := Lib.hid hS
      clear hS
      rw [show (60 : Nat) + 4 = 64 from rfl]
      have hat := fun w' => run_arrayAt (P := Try.prog) w' 28 _ 64 (some ⟨g, 0, none⟩) 64 c' Try.underlying28 (by decide)
      have hcell : w5.rangeAt g 0 (bs S) := fun j v hj => by
        rw [Nat.zero_add]
        have hj2 := (List.getElem?_eq_some_iff.1 hj).1
        rw [bs_length, HLL.out] at hj2
        exact (hown.cellAt j hj2).trans hj
      have hldS := big_load0 Try.prog g 0 (bs S) m (by rw [bs_length, HLL.out, HM.out.1]) _ hcell
      clear hown hcell hb5 HL
      go_wp2_with (first
        | ((with_reducible refine wpList_pg_store (o := ⟨none, .store _ _ _, _, _, _, _⟩) rfl _ _ rfl (w.heap.size + 1) S pg0 HLL.out rfl rfl rfl HX.out ?_); intro w9 hb9 hg9 _)
        | fail)
      have hldF := big_load0 Try.prog (w.heap.size + 1) 0 (bs S) m (by rw [bs_length, HLL.out, HM.out.1]) _ hb9.range0
      generalize hR : bs S = R at hldF ⊢
      exact bodyPost_ret (v := .agg R.toArray) (by simp [results, Try.results25, go_sem, hsz, hldF]) rfl ⟨by rw [HS2.out, hR], below_stored HB.out hg9 HB.out.size (by omega)⟩
end Go.Proofs.Ytoehflalpidhfaa

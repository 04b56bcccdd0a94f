/-
  DevC DevD DevE
-/
import Derived.Test.YthgjlofebicpiaaMg18
import Derived.Test.YthgjlofebicpiaaMg07
import Derived.Deep.MidRow
import Derived.StillTailTactics
import Derived.Maps.RangeWalk
import Derived.Deep.RegionLaw
import Derived.Deep.WholeRow
/-
  Package dev: the device's block; why something is refused; the numbers that it tells.
-/
namespace Go.Proofs.Ythgjlofebicpiaa
open Go.RowKit Geom Zone Dev
set_option linter.unusedVariables false

abbrev dcs (conv soft seq size opn : Int) (zv : Value) (lb : Nat) (cv : Value) (nb : Nat) (down : Bool) (armed ill : Int) : Array Value :=
  #[.int .i64 conv, .int .i64 soft, .int .i64 seq, .int .i64 size, .int .i64 opn, zv, .map (some lb), cv, .map (some nb), .bool down, .int .i64 armed, .int .i64 ill]
/-- block d is a device -/
def DBlk (w : World) (d : Nat) (conv soft seq size opn : Int) (zv : Value) (lb : Nat) (cv : Value) (nb : Nat) (down : Bool) (armed ill : Int) : Prop :=
  w.heap[d]? = some (.cells (dcs conv soft seq size opn zv lb cv nb down armed ill) 82 (0, 0))
abbrev dp (d : Nat) : Value := .pointer (some ⟨d, 0, none⟩)

section
variable {w : World} {d : Nat} {conv soft seq size opn : Int} {zv : Value} {lb : Nat} {cv : Value} {nb : Nat} {down : Bool} {armed ill : Int}
theorem DBlk.lt (h : DBlk w d conv soft seq size opn zv lb cv nb down armed ill) : d < w.heap.size := lt_of_block h
theorem DBlk.same {w' : World} (h : DBlk w d conv soft seq size opn zv lb cv nb down armed ill) (hb : w'.heap[d]? = w.heap[d]?) : DBlk w' d conv soft seq size opn zv lb cv nb down armed ill := hb.trans h
theorem DBlk.frozen (h : DBlk w d conv soft seq size opn zv lb cv nb down armed ill) (i : Nat) : w.frozen? ⟨d, i, none⟩ = false := frozen_of_row _ _ _ _ _ h
theorem DBlk.geo (h : DBlk w d conv soft seq size opn zv lb cv nb down armed ill) : w.cell? ⟨d, 0, none⟩ = some (.int .i64 conv) ∧ w.cell? ⟨d, 1, none⟩ = some (.int .i64 soft) ∧ w.cell? ⟨d, 2, none⟩ = some (.int .i64 seq) ∧
    w.cell? ⟨d, 3, none⟩ = some (.int .i64 size) ∧ w.cell? ⟨d, 4, none⟩ = some (.int .i64 opn) :=
  ⟨cell_of_row _ _ 0 _ _ _ h, cell_of_row _ _ 1 _ _ _ h, cell_of_row _ _ 2 _ _ _ h, cell_of_row _ _ 3 _ _ _ h, cell_of_row _ _ 4 _ _ _ h⟩
theorem DBlk.mem (h : DBlk w d conv soft seq size opn zv lb cv nb down armed ill) : w.cell? ⟨d, 5, none⟩ = some zv ∧ w.cell? ⟨d, 6, none⟩ = some (.map (some lb)) ∧ w.cell? ⟨d, 7, none⟩ = some cv ∧ w.cell? ⟨d, 8, none⟩ = some (.map (some nb)) :=
  ⟨cell_of_row _ _ 5 _ _ _ h, cell_of_row _ _ 6 _ _ _ h, cell_of_row _ _ 7 _ _ _ h, cell_of_row _ _ 8 _ _ _ h⟩
theorem DBlk.num (h : DBlk w d conv soft seq size opn zv lb cv nb down armed ill) : w.cell? ⟨d, 9, none⟩ = some (.bool down) ∧ w.cell? ⟨d, 10, none⟩ = some (.int .i64 armed) ∧ w.cell? ⟨d, 11, none⟩ = some (.int .i64 ill) :=
  ⟨cell_of_row _ _ 9 _ _ _ h, cell_of_row _ _ 10 _ _ _ h, cell_of_row _ _ 11 _ _ _ h⟩
theorem DBlk.set5 (h : DBlk w d conv soft seq size opn zv lb cv nb down armed ill) (v : Value) : DBlk (w.setCell ⟨d, 5, none⟩ v) d conv soft seq size opn v lb cv nb down armed ill := (heap_setCell_same _ _ _ _ _ _ h).trans (by simp)
theorem DBlk.set7 (h : DBlk w d conv soft seq size opn zv lb cv nb down armed ill) (v : Value) : DBlk (w.setCell ⟨d, 7, none⟩ v) d conv soft seq size opn zv lb v nb down armed ill := (heap_setCell_same _ _ _ _ _ _ h).trans (by simp)
theorem DBlk.set8 (h : DBlk w d conv soft seq size opn zv lb cv nb down armed ill) (b : Nat) : DBlk (w.setCell ⟨d, 8, none⟩ (.map (some b))) d conv soft seq size opn zv lb cv b down armed ill := (heap_setCell_same _ _ _ _ _ _ h).trans (by simp)
theorem DBlk.set9 (h : DBlk w d conv soft seq size opn zv lb cv nb down armed ill) (b : Bool) : DBlk (w.setCell ⟨d, 9, none⟩ (.bool b)) d conv soft seq size opn zv lb cv nb b armed ill := (heap_setCell_same _ _ _ _ _ _ h).trans (by simp)
theorem DBlk.set10 (h : DBlk w d conv soft seq size opn zv lb cv nb down armed ill) (n : Int) : DBlk (w.setCell ⟨d, 10, none⟩ (.int .i64 n)) d conv soft seq size opn zv lb cv nb down n ill := (heap_setCell_same _ _ _ _ _ _ h).trans (by simp)
theorem DBlk.set11 (h : DBlk w d conv soft seq size opn zv lb cv nb down armed ill) (n : Int) : DBlk (w.setCell ⟨d, 11, none⟩ (.int .i64 n)) d conv soft seq size opn zv lb cv nb down armed n := (heap_setCell_same _ _ _ _ _ _ h).trans (by simp)

theorem DBlk.ne_map {n : Nat} {f : Int × Int → Option Value} {b : Nat} (h : DBlk w d conv soft seq size opn zv lb cv nb down armed ill) (hm : MapIs w b n f) : d ≠ b := by
  rintro rfl
  obtain ⟨es, clock, h2⟩ := hm.is_map
  unfold DBlk at h
  rw [h2] at h
  cases h
theorem DBlk.ne_row {e : TypeId} {sz n g : Nat} {v : Value} {xs : List Value} (h : DBlk w d conv soft seq size opn zv lb cv nb down armed ill) (hr : w.ownsRow 0 e sz v n xs) (hg : v.ownBlock = some g) (he : e ≠ 82) : d ≠ g := by
  rintro rfl
  obtain ⟨_, cur, h2⟩ := own_type hr hg
  unfold DBlk at h
  rw [h2] at h
  injection h with h
  injection h with _ h
  exact he h
theorem MapIs.ne_row {e : TypeId} {sz n m g b : Nat} {f : Int × Int → Option Value} {v : Value} {xs : List Value} (h : MapIs w b m f) (hr : w.ownsRow 0 e sz v n xs) (hg : v.ownBlock = some g) : b ≠ g := by
  rintro rfl
  obtain ⟨_, cur, h2⟩ := own_type hr hg
  obtain ⟨es, clock, h3⟩ := h.is_map
  rw [h2] at h3
  cases h3
theorem refusal_down (e : Int) (h : DBlk w d conv soft seq size opn zv lb cv nb true armed ill) :
    Calls Try.prog 54 #[dp d, .int .i64 e] w fun x w' => x = .returned (.int .i64 2) ∧ w = w' := by
  obtain ⟨c9, c10, c11⟩ := h.num
  go_enter Try.func54, Try.ntmps54
  go_wp2
  go_ret
  exact ⟨rfl, rfl⟩
theorem refusal_ok (h : DBlk w d conv soft seq size opn zv lb cv nb false armed ill) :
    Calls Try.prog 54 #[dp d, .int .i64 0] w fun x w' => x = .returned (.int .i64 0) ∧ w = w' := by
  obtain ⟨c9, c10, c11⟩ := h.num
  go_enter Try.func54, Try.ntmps54
  go_wp2
  go_ret
  exact ⟨rfl, rfl⟩
theorem refusal_no (e : Int) (he : e ≠ 0) (h0 : 0 ≤ ill) (h1 : ill ≤ 1000000) (h : DBlk w d conv soft seq size opn zv lb cv nb false armed ill) :
    Calls Try.prog 54 #[dp d, .int .i64 e] w fun x w' => x = .returned (.int .i64 e) ∧ w.setCell ⟨d, 11, none⟩ (.int .i64 (ill + 1)) = w' := by
  obtain ⟨c9, c10, c11⟩ := h.num
  have f11 := h.frozen 11
  have hq : (e != 0) = true := by simpa using he
  go_enter Try.func54, Try.ntmps54
  go_wp2
  go_ret
  exact ⟨rfl, rfl⟩
theorem down_any (h : DBlk w d conv soft seq size opn zv lb cv nb down armed ill) :
    Calls Try.prog 47 #[dp d] w fun x w' => x = .returned (.bool down) ∧ w = w' := by
  obtain ⟨c9, c10, c11⟩ := h.num
  go_enter Try.func47, Try.ntmps47
  go_wp2
  go_ret
  exact ⟨rfl, rfl⟩
theorem illegal_any (h : DBlk w d conv soft seq size opn zv lb cv nb down armed ill) :
    Calls Try.prog 13 #[dp d] w fun x w' => x = .returned (.int .i64 ill) ∧ w = w' := by
  obtain ⟨c9, c10, c11⟩ := h.num
  go_enter Try.func13, Try.ntmps13
  go_wp2
  go_ret
  exact ⟨rfl, rfl⟩
/-- Arm, of a device that is down, and of one that isn't -/
theorem arm_down (n : Int) (h : DBlk w d conv soft seq size opn zv lb cv nb true armed ill) :
    Calls Try.prog 14 #[dp d, .int .i64 n] w fun x w' => x = .returned (.tuple #[]) ∧ w = w' := by
  obtain ⟨c9, c10, c11⟩ := h.num
  go_enter Try.func14, Try.ntmps14
  go_wp2
  exact bodyPost_ret (v := .tuple #[]) (by simp [results, Try.results14, go_sem]) rfl ⟨rfl, rfl⟩
theorem arm_up (n : Int) (h : DBlk w d conv soft seq size opn zv lb cv nb false armed ill) :
    Calls Try.prog 14 #[dp d, .int .i64 n] w fun x w' => x = .returned (.tuple #[]) ∧ (w.setCell ⟨d, 10, none⟩ (.int .i64 (max n 0))).setCell ⟨d, 9, none⟩ (.bool (n == 0)) = w' := by
  obtain ⟨c9, c10, c11⟩ := h.num
  have f9 := h.frozen 9
  have f10 := h.frozen 10
  by_cases hn : 0 ≤ n
  · rw [show max n 0 = n by omega]
    by_cases h0 : n = 0
    · subst h0
      go_enter Try.func14, Try.ntmps14
      go_wp2
      go_end0
      exact ⟨rfl, rfl⟩
    · have h1 : 0 < n := by omega
      go_enter Try.func14, Try.ntmps14
      go_wp2
      go_end0
      exact ⟨rfl, rfl⟩
  · rw [show max n 0 = 0 by omega]
    have h1 : n < 0 := by omega
    go_enter Try.func14, Try.ntmps14
    go_wp2
    go_end0
    exact ⟨rfl, rfl⟩
end
end Go.Proofs.Ythgjlofebicpiaa

/-
  Package dev: hold: a sector is cached behind all others.
-/
namespace Go.Proofs.Ythgjlofebicpiaa
open Go.RowKit Geom Zone Dev
set_option linter.unusedVariables false

abbrev newestV (l : List Wr) : Pl → Option Value := fun a => (newest l a).map fun i => .int .i64 (i : Int)
theorem elemW : Elem Try.prog 79 84 (.agg (Array.mk (.int .i64 0 :: .int .i64 0 :: List.replicate 64 (.int .u8 0)))) 66 80 := .of Try.underlying79 (by kernel_rfl) rfl (by omega)
theorem newestV_snoc (l : List Wr) (c : Wr) : updM (newestV l) c.pl (some (.int .i64 (l.length : Int))) = newestV (l ++ [c]) := by
  funext a
  unfold updM newestV
  rw [newest_snoc]
  split <;> rfl
/-- a value in a box of its own -/
theorem box_cells (w : World) (xs : List Value) (T : TypeId) (k : Nat) (u : Value) (h : xs[k]? = some u) : (w.alloc (.cells xs.toArray T)).cell? ⟨w.heap.size, k, none⟩ = some u := by
  rw [cell_of_row _ _ _ _ _ _ (MapKept.heap_alloc w _).1]
  simpa using h

section
variable {w : World} {d : Nat} {conv soft seq size opn : Int} {zv : Value} {lb : Nat} {cv : Value} {nb : Nat} {down : Bool} {armed ill : Int}

set_option maxRecDepth 100000 in
theorem hold_any (c : Wr) (l : List Wr) (n2 : Nat) (hc : c.2.2.length = 64) (hl : WOk l) (h1 : W64 c.1) (h2 : W64 c.2.1) (hll : l.length ≤ 100000) (hn2 : n2 ≤ 100000) (hD : DBlk w d conv soft seq size opn zv lb cv nb down armed ill)
    (hcv : w.ownsRow 0 84 66 cv l.length (wcs l)) (hm : MapIs w nb n2 (newestV l)) :
    Calls Try.prog 46 #[dp d, .agg (wc c).toArray] w fun x w' => x = .returned (.tuple #[]) ∧ ∃ cv', DBlk w' d conv soft seq size opn zv lb cv' nb down armed ill ∧
      w'.ownsRow 0 84 66 cv' (l ++ [c]).length (wcs (l ++ [c])) ∧ MapIs w' nb (n2 + 1) (newestV (l ++ [c])) ∧ Fr (fun k => k = d ∨ k = nb ∨ cv.ownBlock = some k) w w' ∧ (cv'.ownBlock = cv.ownBlock ∨ ∃ g, cv'.ownBlock = some g ∧ w.heap.size ≤ g) := by
  obtain ⟨A, cap, rfl⟩ := own_slice hcv
  have hlen : (wc c).length = 66 := wc_length hc
  have hw : ∀ w2 : World, (∀ k v, (wc c)[k]? = some v → w2.cell? ⟨w.heap.size, k, none⟩ = some v) → w2.cell? ⟨w.heap.size, 0, none⟩ = some (.int .i64 c.1) ∧ w2.cell? ⟨w.heap.size, 1, none⟩ = some (.int .i64 c.2.1) := fun w2 h => ⟨h 0 _ rfl, h 1 _ rfl⟩
  have hbx : ∀ k v, (wc c)[k]? = some v → (w.alloc (.cells (wc c).toArray 84)).cell? ⟨w.heap.size, k, none⟩ = some v := fun k v h => box_cells w _ _ k v h
  have hf0 : Fr (fun k => k = d ∨ k = nb ∨ (Value.slice A l.length cap).ownBlock = some k) w (w.alloc (.cells (wc c).toArray 84)) := (Fr.refl _).alloc _
  have hlt : w.heap.size < (w.alloc (.cells (wc c).toArray 84)).heap.size := by simp
  have hdl := hD.lt
  have hD1 : DBlk (w.alloc (.cells (wc c).toArray 84)) d conv soft seq size opn zv lb (.slice A l.length cap) nb down armed ill := hD.same (Below.heap_alloc _ _ _ hdl)
  have hcv1 := hcv.alloc (.cells (wc c).toArray 84)
  have hm1 := hm.same (w' := w.alloc (.cells (wc c).toArray 84)) (Below.heap_alloc _ _ _ hm.lt)
  have hnl := hm.lt
  go_enter Try.func46, Try.ntmps46
  go_wp2_with fail
  generalize World.alloc _ _ = w1 at hbx hf0 hlt hD1 hcv1 hm1 ⊢
  generalize w.heap.size = b at hw hbx hlt hdl hnl ⊢
  obtain ⟨q0, q1⟩ := hw w1 hbx
  obtain ⟨c5, c6, c7, c8⟩ := hD1.mem
  have hne := hD1.ne_map hm1
  have H := Lib.hid (And.intro hbx (And.intro hf0 (And.intro hcv1 hm1)))
  clear hbx hf0 hcv1 hD hcv hm hw
  go_still_tail 11, (by kernel_rfl)
  change wpList _ _ _ _ _ w1.drew
  refine wpList_place_store _ rfl _ _ _ _ rfl 3 Try.underlying80 nb n2 _ rfl (H.out.2.2.2.same rfl) (by unfold maxLen; omega) c.pl rfl h1 h2 _ rfl ?_
  intro w2 hm2 ht2
  have hg2 := ht2.grown
  have hD2 : DBlk w2 d conv soft seq size opn zv lb (.slice A l.length cap) nb down armed ill := hD1.same (hg2.block d hD1.lt (by simpa using hne))
  have q0 : w2.cell? ⟨b, 0, none⟩ = some (.int .i64 c.1) := hg2.cell q0 (by simp; omega)
  have hcv2 : w2.ownsRow 0 84 66 (.slice A l.length cap) l.length (wcs l) := own_same H.out.2.2.1 fun g hg => hg2.block g (H.out.2.2.1.lt g hg).2 (by have := hm1.ne_row H.out.2.2.1 hg; simp; omega)
  obtain ⟨c5', c6', c7', c8'⟩ := hD2.mem
  have f7 := hD2.frozen 7
  have hR : w2.rangeAt b 0 (wc c) := fun j v hj => by rw [Nat.zero_add]; exact hg2.cell (a := ⟨b, j, none⟩) (H.out.1 j v hj) (by simp; omega)
  obtain ⟨n, hn, hsz⟩ := big_size (P := Try.prog) (t := 84) (s := 66) (by kernel_rfl)
  have hlenn : (wc c).length = n := by rw [hlen, hn]
  have hld := big_load0 Try.prog b 0 (wc c) n hlenn
  have hn1 : ¬ 16777216 < n := by omega
  have hn0 : ¬ n = 0 := by omega
  have HN := Lib.hid hn
  clear hn
  have hne2 := Lib.hid hlen
  clear q0 q1 c5 c6 c7 c8 hlen c5' c6' c8'
  go_wp2_with fail
  go_frame
  have hv : (Value.int .i64 (l.length : Int)) = Value.int .i64 (l.length : Int) := rfl
  have hm2' : MapIs w2 nb (n2 + 1) (newestV (l ++ [c])) := by rw [← newestV_snoc]; exact hm2
  clear hv
  have HF := Lib.hid (fun (g3 cap3 : Nat) (w3 : World) (hown3 : w3.ownsRow 0 84 66 (.slice (some ⟨g3, 0, none⟩) (l.length + 1) cap3) (l.length + 1) (wcs l ++ wc c))
      (hg3 : (w2.drew.alloc (.cells (wc c).toArray 84)).grownBy w3 (Value.slice A l.length cap).ownBlock) (hat3 : (Value.slice A l.length cap).ownBlock = some g3 ∨ w2.heap.size ≤ g3) =>
    show ∃ cv', DBlk (w3.setCell ⟨d, 7, none⟩ (.slice (some ⟨g3, 0, none⟩) (l.length + 1) cap3)) d conv soft seq size opn zv lb cv' nb down armed ill ∧
      (w3.setCell ⟨d, 7, none⟩ (.slice (some ⟨g3, 0, none⟩) (l.length + 1) cap3)).ownsRow 0 84 66 cv' (l ++ [c]).length (wcs (l ++ [c])) ∧
      MapIs (w3.setCell ⟨d, 7, none⟩ (.slice (some ⟨g3, 0, none⟩) (l.length + 1) cap3)) nb (n2 + 1) (newestV (l ++ [c])) ∧
      Fr (fun k => k = d ∨ k = nb ∨ (Value.slice A l.length cap).ownBlock = some k) w (w3.setCell ⟨d, 7, none⟩ (.slice (some ⟨g3, 0, none⟩) (l.length + 1) cap3)) ∧
      (cv'.ownBlock = (Value.slice A l.length cap).ownBlock ∨ ∃ g, cv'.ownBlock = some g ∧ w.heap.size ≤ g) from by
    have hDs := hD2.lt
    have hms := hm2.lt
    have hnd : (Value.slice A l.length cap).ownBlock ≠ some d := fun h => hD2.ne_row hcv2 h (by decide) rfl
    have hnm : (Value.slice A l.length cap).ownBlock ≠ some nb := fun h => hm2.ne_row hcv2 h rfl
    have hD3 : DBlk w3 d conv soft seq size opn zv lb (.slice A l.length cap) nb down armed ill := hD2.same ((hg3.block d (by simp; omega) (fun e => hnd e.symm)).trans (Below.heap_alloc w2.drew _ _ hDs))
    have hm3 : MapIs w3 nb (n2 + 1) (newestV (l ++ [c])) := hm2'.same ((hg3.block nb (by simp; omega) (fun e => hnm e.symm)).trans (Below.heap_alloc w2.drew _ _ hms))
    have hgd : d ≠ g3 := hD3.ne_row hown3 rfl (by decide)
    have hnbd : d ≠ nb := hD3.ne_map hm3
    have e1 : (l ++ [c]).length = l.length + 1 := by simp
    have e2 : wcs (l ++ [c]) = wcs l ++ wc c := by rw [wcs_append, wcs_one]
    refine ⟨_, hD3.set7 _, ?_, hm3.same (heap_setCell_other _ _ _ _ (fun e => hnbd e.symm)), ?_, ?_⟩
    · rw [e1, e2]
      exact own_same hown3 fun g hg => heap_setCell_other _ _ _ _ (fun e => by injection hg with hg; exact hgd (e.symm.trans hg.symm))
    · have F1 := H.out.2.1
      have F2 : Fr (fun k => k = d ∨ k = nb ∨ (Value.slice A l.length cap).ownBlock = some k) w1 w2 := (Fr.refl w1).drew.trans (Fr.of_grown hg2 (fun k e => by injection e with e; exact .inr (.inl e.symm)))
      have F3 : Fr (fun k => k = d ∨ k = nb ∨ (Value.slice A l.length cap).ownBlock = some k) w2 w3 := ((Fr.refl w2).drew.alloc _).trans (Fr.of_grown hg3 (fun k e => .inr (.inr e)))
      exact ((F1.trans F2).trans F3).setCell _ _ (.inl rfl)
    · rcases hat3 with h | h
      · exact .inl h.symm
      · refine .inr ⟨g3, rfl, ?_⟩
        have s1 := H.out.2.1.size
        have s2 := hg2.size
        have s3 : w1.drew.heap.size = w1.heap.size := rfl
        omega)
  have hfold := fold_box Try.zeroCells84 66 (wc c) n hlenn
  have hda : ∀ (o : Obj) (k : Nat), (Value.slice A l.length cap).ownBlock = some d → False := fun o k h => hD2.ne_row hcv2 h (by decide) rfl
  have hK7 := Lib.hid (And.intro (fun (w3 : World) (hg3 : (w2.drew.alloc (.cells (wc c).toArray 84)).grownBy w3 (Value.slice A l.length cap).ownBlock) => show w3.cell? ⟨d, 7, none⟩ = some (.slice A l.length cap) from
      hg3.cell ((World.cell?_alloc_lt w2.drew _ ⟨d, 7, none⟩ hD2.lt).trans c7') (fun e => hda (.cells #[] 0) 0 e.symm))
    (fun (w3 : World) (hg3 : (w2.drew.alloc (.cells (wc c).toArray 84)).grownBy w3 (Value.slice A l.length cap).ownBlock) => show w3.frozen? ⟨d, 7, none⟩ = false from
      (World.frozen?_of_block (hg3.block d (by simp; have := hD2.lt; omega) (fun e => hda (.cells #[] 0) 0 e.symm))).trans ((World.frozen?_of_block (Below.heap_alloc w2.drew _ d hD2.lt)).trans f7)))
  have c7a : (w2.alloc (.cells (wc c).toArray 84)).cell? ⟨d, 7, none⟩ = some (.slice A l.length cap) := (World.cell?_alloc_lt w2 _ ⟨d, 7, none⟩ hD2.lt).trans c7'
  clear hda
  go_region_law (refine step_append_big _ rfl _ _ _ rfl 0 84 _ 66 80 elemW (.slice A l.length cap) l.length (wcs l) rfl (hcv2.alloc (.cells (wc c).toArray 84)) w2.heap.size (wc c) rfl hne2.out (fun j u hj => by rw [Addr.add_mid, Nat.zero_add]; exact box_cells w2 (wc c) _ j u hj) (fun u hu => wc_cells hu) (by unfold maxLen; omega) (by omega) (by simp) ?_; intro g3 cap3 w3 hown3 hg3 hat3; have c7w : w3.cell? ⟨d, 7, none⟩ = some (.slice A l.length cap) := hK7.out.1 w3 hg3; have f7w : w3.frozen? ⟨d, 7, none⟩ = false := hK7.out.2 w3 hg3)
  all_goals
    go_wp2
    go_end0
    exact ⟨rfl, HF.out _ _ _ hown3 hg3 (hat3.imp id fun e => by rw [e]; simp [World.drew])⟩
end
end Go.Proofs.Ythgjlofebicpiaa

/-
  Package dev: settle: what becomes of each cached sector, as whatever closure tells.
-/
namespace Go.Proofs.Ythgjlofebicpiaa
open Go.RowKit Geom Zone Dev
set_option linter.unusedVariables false

namespace Dev
/-- what settle makes of a list: the closure's state, what stays, what lasts -/
def stl {St : Type} (step : St → Wr → Int × St) : List Wr → St × List Wr × (Pl → Option Value) → St × List Wr × (Pl → Option Value)
  | [], s => s
  | c :: r, (σ, k, f) => stl step r ((step σ c).2, if (step σ c).1 = 0 then k ++ [c] else k, if (step σ c).1 = 1 then updM f c.pl (some (pgv c.2.2)) else f)
theorem stl_snoc {St : Type} (step : St → Wr → Int × St) (c : Wr) : ∀ (l : List Wr) (s : St × List Wr × (Pl → Option Value)), stl step (l ++ [c]) s =
    (((step (stl step l s).1 c).2, if (step (stl step l s).1 c).1 = 0 then (stl step l s).2.1 ++ [c] else (stl step l s).2.1, if (step (stl step l s).1 c).1 = 1 then updM (stl step l s).2.2 c.pl (some (pgv c.2.2)) else (stl step l s).2.2))
  | [], (σ, k, f) => rfl
  | x :: r, (σ, k, f) => stl_snoc step c r _
end Dev

theorem eql_fate (w : World) (a b : Int) : (binOp .eql 88 (.int .i64 a) (.int .i64 b)).run Try.prog w = .ok (.bool (a == b)) w := by
  go_simp

section
variable {w : World} {d : Nat} {conv soft seq size opn : Int} {zv : Value} {lb : Nat} {cv : Value} {nb : Nat} {down : Bool} {armed ill : Int}

/-- what is so ahead of each round -/
def StR {St : Type} (w : World) (d : Nat) (conv soft seq size opn : Int) (zv : Value) (lb n1 : Nat) (down : Bool) (armed ill : Int) (J : Nat → Prop) (Inv : St → World → Prop) (k : Nat) (s : St × List Wr × (Pl → Option Value)) (wr : World) : Prop :=
  ∃ cv' nb', DBlk wr d conv soft seq size opn zv lb cv' nb' down armed ill ∧ wr.ownsRow 0 84 66 cv' s.2.1.length (wcs s.2.1) ∧ (∀ g, cv'.ownBlock = some g → w.heap.size ≤ g) ∧ w.heap.size ≤ nb' ∧
    MapIs wr nb' s.2.1.length (newestV s.2.1) ∧ MapIs wr lb (n1 + k) s.2.2 ∧ Inv s.1 wr ∧ Fr (fun x => x = d ∨ x = lb ∨ J x) w wr ∧ WOk s.2.1 ∧ s.2.1.length ≤ k

set_option maxRecDepth 100000 in
set_option maxHeartbeats 4000000 in
theorem settle_any {St : Type} (F : FuncId) (cap2 : Array Value) (step : St → Wr → Int × St) (Inv : St → World → Prop) (J JT : Nat → Prop) (σ : St) (l : List Wr) (n1 n2 : Nat) (last : Pl → Option Value) (hl : WOk l)
    (hw64 : ∀ c ∈ l, W64 c.1 ∧ W64 c.2.1) (hll : l.length ≤ 100000) (hn1 : n1 ≤ 10000000) (hD : DBlk w d conv soft seq size opn zv lb cv nb down armed ill)
    (hcv : w.ownsRow 0 84 66 cv l.length (wcs l)) (hm : MapIs w lb n1 last) (hI : Inv σ w)
    (hJ : ∀ k, J k → k < w.heap.size ∧ k ≠ d ∧ k ≠ lb ∧ cv.ownBlock ≠ some k)
    (hJT : ∀ k, JT k → J k)
    (hJI : ∀ (σ : St) (w' w'' : World), Inv σ w' → (∀ k, J k → w''.heap[k]? = w'.heap[k]?) → Inv σ w'')
    (hE : ∀ (args : Array Value) (w' : World), (callFunc F args).run Try.prog w' = .ok (.enter F args) w')
    (hF : ∀ (σ : St) (c : Wr) (w' : World) (cv' : Value) (nb' : Nat), c ∈ l → Inv σ w' → DBlk w' d conv soft seq size opn zv lb cv' nb' down armed ill → w.heap.size ≤ w'.heap.size →
      Calls Try.prog F (#[.agg (wc c).toArray] ++ cap2) w' fun e w'' => e = .returned (.int .i64 (step σ c).1) ∧ Inv (step σ c).2 w'' ∧ Fr JT w' w'') :
    Calls Try.prog 33 #[dp d, .func (.func F) #[] cap2] w fun x w' => x = .returned (.tuple #[]) ∧ StR w d conv soft seq size opn zv lb n1 down armed ill JT Inv l.length (stl step l (σ, [], last)) w' := by
  obtain ⟨A, cap, rfl⟩ := own_slice hcv
  have hcap := own_cap hcv
  obtain ⟨c5, c6, c7, c8⟩ := hD.mem
  have f7 := hD.frozen 7
  have f8 := hD.frozen 8
  have hS : StR w d conv soft seq size opn zv lb n1 down armed ill JT Inv 0 (stl step (l.take 0) (σ, [], last)) (((w.alloc (.map #[] 0)).setCell ⟨d, 7, none⟩ (.slice none 0 0)).setCell ⟨d, 8, none⟩ (.map (some w.heap.size))) := by
    have hd := hD.lt
    have hD1 : DBlk (w.alloc (.map #[] 0)) d conv soft seq size opn zv lb (.slice A l.length cap) nb down armed ill := hD.same (Below.heap_alloc _ _ _ hd)
    have hf : Fr (fun x => x = d ∨ x = lb ∨ JT x) w (((w.alloc (.map #[] 0)).setCell ⟨d, 7, none⟩ (.slice none 0 0)).setCell ⟨d, 8, none⟩ (.map (some w.heap.size))) := (((Fr.refl w).alloc _).setCell _ _ (.inl rfl)).setCell _ _ (.inl rfl)
    have hne := hD.ne_map hm
    refine ⟨.slice none 0 0, w.heap.size, (hD1.set7 _).set8 _, ⟨rfl, .inl ⟨rfl, rfl⟩⟩, (fun g h => by cases h), Nat.le_refl _, ?_, ?_, ?_, hf, (fun c h => by simp [stl] at h), by simp [stl]⟩
    · exact (MapIs.made w).same ((heap_setCell_other _ _ _ _ (by simp; omega)).trans (heap_setCell_other _ _ _ _ (by simp; omega)))
    · exact hm.same ((heap_setCell_other _ _ _ _ (fun e => hne e.symm)).trans ((heap_setCell_other _ _ _ _ (fun e => hne e.symm)).trans (Below.heap_alloc _ _ _ hm.lt)))
    · refine hJI _ _ _ hI fun k hk => ?_
      obtain ⟨j1, j2, _⟩ := hJ k hk
      exact ((heap_setCell_other _ _ _ _ j2).trans ((heap_setCell_other _ _ _ _ j2).trans (Below.heap_alloc _ _ _ j1)))
  have f8a : ((w.alloc (.map #[] 0)).setCell ⟨d, 7, none⟩ (.slice none 0 0)).frozen? ⟨d, 8, none⟩ = false := by
    have hD1 : DBlk (w.alloc (.map #[] 0)) d conv soft seq size opn zv lb (.slice A l.length cap) nb down armed ill := hD.same (Below.heap_alloc _ _ _ hD.lt)
    exact (hD1.set7 _).frozen 8
  have c8a : ((w.alloc (.map #[] 0)).setCell ⟨d, 7, none⟩ (.slice none 0 0)).cell? ⟨d, 8, none⟩ = some (.map (some nb)) := by
    have hD1 : DBlk (w.alloc (.map #[] 0)) d conv soft seq size opn zv lb (.slice A l.length cap) nb down armed ill := hD.same (Below.heap_alloc _ _ _ hD.lt)
    exact (hD1.set7 _).mem.2.2.2
  have c7a : (w.alloc (.map #[] 0)).cell? ⟨d, 7, none⟩ = some (.slice A l.length cap) := (World.cell?_alloc_lt w _ ⟨d, 7, none⟩ hD.lt).trans c7
  have c8b : (w.alloc (.map #[] 0)).cell? ⟨d, 8, none⟩ = some (.map (some nb)) := (World.cell?_alloc_lt w _ ⟨d, 8, none⟩ hD.lt).trans c8
  have f7a : (w.alloc (.map #[] 0)).frozen? ⟨d, 7, none⟩ = false := (World.frozen?_of_block (Below.heap_alloc w _ d hD.lt)).trans f7
  have f8b : (w.alloc (.map #[] 0)).frozen? ⟨d, 8, none⟩ = false := (World.frozen?_of_block (Below.heap_alloc w _ d hD.lt)).trans f8
  have HS := Lib.hid hS
  have HCV := Lib.hid hcv
  obtain ⟨m, hm66, hsz⟩ := big_size (P := Try.prog) (t := 84) (s := 66) (by kernel_rfl)
  have HM := Lib.hid hm66
  have HF := Lib.hid hF
  have HJ := Lib.hid hJ
  have HJI := Lib.hid hJI
  have HJT := Lib.hid hJT
  have HW := Lib.hid hw64
  have HL := Lib.hid hl
  have HD := Lib.hid hD
  have hlbg : ∀ (g : Nat), (Value.slice A l.length cap).ownBlock = some g → lb ≠ g := fun g h => hm.ne_row hcv h
  have HLB := Lib.hid hlbg
  have HLT := Lib.hid hm.lt
  clear hlbg
  have hml : l.length ≤ maxLen := by unfold maxLen; omega
  unfold maxLen at hml
  clear hS hcv hm66 hF hJ hJT hJI hw64 hl hm hI
  have hmm := @run_makeMap Try.prog
  go_enter Try.func33, Try.ntmps33
  go_wp2
  clear c5 c6 c7 c8 f7 f8 f8a c8a c7a c8b f7a f8b hD
  go_loopw [20] (fun i wr => ∃ k : Nat, k ≤ l.length ∧ i = .int .i64 k ∧ StR w d conv soft seq size opn zv lb n1 down armed ill JT Inv k (stl step (l.take k) (σ, [], last)) wr) (fun i _ => l.length - (intOf i).toNat)
  case atStart => exact ⟨0, by omega, rfl, HS.out⟩
  case round =>
    obtain ⟨k, hk, rfl, hR⟩ := hrel
    by_cases hlt : k < l.length
    · obtain ⟨cv', nb', hDr, hcr, hcb, hnbs, hmn, hml1, hInv, hFr, hWO, hle⟩ := hR
      obtain ⟨c, hck⟩ : ∃ c, l[k]? = some c := ⟨_, List.getElem?_eq_getElem hlt⟩
      obtain ⟨g, rfl, _, hgw⟩ := own_at HCV.out (by omega)
      have hcl := List.mem_of_getElem? hck
      have hlen : (wc c).length = 66 := wc_length (HL.out c hcl)
      have hlenm : (wc c).length = m := by rw [hlen, HM.out]
      have hgN : ¬ (g = d ∨ g = lb ∨ JT g) := by
        rintro (h | h | h)
        · exact HD.out.ne_row HCV.out rfl (by decide) h.symm
        · exact HLB.out g rfl h.symm
        · exact (HJ.out g (HJT.out g h)).2.2.2 rfl
      have hRg : wr.rangeAt g (k * m) (wc c) := fun j v hj => by
        rw [hFr.cell (a := ⟨g, k * m + j, none⟩) hgw hgN, HM.out]
        have := wcs_get HL.out hck j v hj
        exact (Rd.own HCV.out).cell0 this
      have hld0 := big_load0 Try.prog g (k * m) (wc c) m hlenm wr hRg
      have hst := run_storeCells_new (P := Try.prog) wr 84 Try.zeroCells84 (wc c).toArray (by rw [List.size_toArray, hlen]; kernel_rfl) (Eq.trans (b := 66) (by kernel_rfl) (by rw [List.size_toArray, hlen])) (all_oneCell_toArray fun u hu => wc_cells hu)
      have hldb := big_load0 Try.prog wr.heap.size 0 (wc c) m hlenm (wr.alloc (.cells (wc c).toArray 84)) (fun j v hj => by rw [Nat.zero_add]; exact box_cells wr _ _ j v hj)
      have HLn := Lib.hid hlen
      have hkI : (k : Int) < (l.length : Int) := by omega
      have hwr := hFr.size
      have hw1 : ∀ x, x < wr.heap.size → (wr.alloc (.cells (wc c).toArray 84)).heap[x]? = wr.heap[x]? := fun x hx => Below.heap_alloc _ _ _ hx
      have hD1 : DBlk (wr.alloc (.cells (wc c).toArray 84)) d conv soft seq size opn zv lb cv' nb' down armed ill := hDr.same (hw1 _ hDr.lt)
      have hI1 : Inv (stl step (l.take k) (σ, [], last)).1 (wr.alloc (.cells (wc c).toArray 84)) := HJI.out _ _ _ hInv fun x hx => hw1 x (by have := (HJ.out x hx).1; omega)
      have hC1 := HF.out _ c _ cv' nb' hcl hI1 hD1 (by simp; omega)
      have HE := Lib.hid (show stl step (l.take (k + 1)) (σ, [], last) = _ from by rw [take_succ hck, stl_snoc])
      generalize hs : stl step (l.take k) (σ, [], last) = s at *
      obtain ⟨σk, ck, lk⟩ := s
      simp only at hcr hmn hml1 hWO hle hC1 HE
      generalize hr : step σk c = r at hC1 HE
      obtain ⟨f, σ'⟩ := r
      simp only at hC1 HE
      have HP : ∀ w2, Fr JT (wr.alloc (.cells (wc c).toArray 84)) w2 → DBlk w2 d conv soft seq size opn zv lb cv' nb' down armed ill ∧ w2.ownsRow 0 84 66 cv' ck.length (wcs ck) ∧
          MapIs w2 nb' ck.length (newestV ck) ∧ MapIs w2 lb (n1 + k) lk ∧ Fr (fun x => x = d ∨ x = lb ∨ JT x) w w2 ∧ w2.rangeAt wr.heap.size 0 (wc c) ∧ wr.heap.size < w2.heap.size := by
        intro w2 h2
        have hnb1 := hmn.lt
        have hlb1 := hml1.lt
        have hd1 := hDr.lt
        have e : ∀ x, x < wr.heap.size → ¬ J x → w2.heap[x]? = wr.heap[x]? := fun x hx hj => (h2.same (by simp; omega) (fun h => hj (HJT.out x h))).trans (hw1 x hx)
        refine ⟨hDr.same (e _ hd1 fun hj => (HJ.out d hj).2.1 rfl), own_same hcr fun g hg => e g (hcr.lt g hg).2 fun hj => by have h8 := (HJ.out g hj).1; have h9 := hcb g hg; omega, hmn.same (e _ hnb1 fun hj => by have := (HJ.out _ hj).1; omega),
          hml1.same (e _ hlb1 fun hj => (HJ.out _ hj).2.2.1 rfl), (hFr.alloc _).trans (h2.mono fun x _ hx => .inr (.inr hx)), fun j v hj => ?_, Nat.lt_of_lt_of_le (by simp) h2.size⟩
        rw [h2.cell (a := ⟨wr.heap.size, 0 + j, none⟩) (by simp) (fun hj => by have h8 : wr.heap.size < w.heap.size := (HJ.out _ (HJT.out _ hj)).1; omega), Nat.zero_add]
        exact box_cells wr _ _ j v hj
      have HP := Lib.hid HP
      have HC1 := Lib.hid hC1
      have HX := Lib.hid (And.intro hcb (And.intro hnbs (And.intro hWO (And.intro hle hwr))))
      clear hInv hFr hmn hml1 hWO hle hcr hcb hnbs hck hlen hRg hgN hw1 hD1 hI1 hC1 hs hr hwr
      go_wp2_with fail
      refine HC1.out.mono ?_
      rintro e w2 ⟨rfl, hI2, hF2⟩
      obtain ⟨hD2, hcr2, hmn2, hml2, hFr2, hRg2, hlt2⟩ := HP.out w2 hF2
      have hld2 := big_load0 Try.prog wr.heap.size 0 (wc c) m hlenm w2 hRg2
      by_cases hf0 : f = 0
      · subst hf0
        go_wp2_with fail
        refine (hold_any c ck ck.length (HL.out c hcl) HX.out.2.2.1 (HW.out c hcl).1 (HW.out c hcl).2 (by have := HX.out.2.2.2.1; omega) (by have := HX.out.2.2.2.1; omega) hD2 hcr2 hmn2).mono ?_
        rintro e w3 ⟨rfl, cv3, hD3, hcr3, hmn3, hF3, hat3⟩
        have HK : StR w d conv soft seq size opn zv lb n1 down armed ill JT Inv (k + 1) (stl step (l.take (k + 1)) (σ, [], last)) w3 := by
          rw [HE.out]
          obtain ⟨x1, x2, x3, x4, x5⟩ := HX.out
          have hnb0 : nb' ≠ lb := fun h => by have := HLT.out; omega
          have hlk : lb < w2.heap.size := hml2.lt
          have e : ∀ x, x < w2.heap.size → x ≠ d → x ≠ nb' → cv'.ownBlock ≠ some x → w3.heap[x]? = w2.heap[x]? := fun x hx h1 h2 h3 => hF3.same hx (fun h => h.elim h1 fun h => h.elim h2 h3)
          refine ⟨cv3, nb', hD3, by simpa using hcr3, fun g' hg' => ?_, x2, by simpa using hmn3, ?_, ?_, hFr2.andThen hF3 (fun x hx h => h.elim .inl fun h => h.elim (fun h => by omega) fun h => by have := x1 x h; omega), ?_, by simp; omega⟩
          · rcases hat3 with h | ⟨g2, h, h'⟩
            · exact x1 g' (h ▸ hg')
            · rw [h] at hg'
              injection hg' with hg'
              have := hFr2.size
              omega
          · exact (hml2.mono (by omega)).same (e lb hlk (fun h => hD2.ne_map hml2 h.symm) (fun h => hnb0 h.symm) (fun h => hml2.ne_row hcr2 h rfl))
          · exact HJI.out _ _ _ hI2 fun x hx => by
              have h1 := (HJ.out x hx).1
              refine e x (by omega) (HJ.out x hx).2.1 (by omega) (fun h => by have := x1 x h; omega)
          · intro y hy
            rcases List.mem_append.1 hy with hy | hy
            · exact x3 y hy
            · rw [List.mem_singleton.1 hy]
              exact HL.out c hcl
        have HK := Lib.hid HK
        clear hD2 hcr2 hmn2 hml2 hFr2 hRg2 hI2 hF2 hD3 hcr3 hmn3 hF3 hat3
        go_wp2
        go_roundw
        case rel => exact ⟨k + 1, by omega, by go_num, HK.out⟩
        case measure => simp [intOf]; omega
      by_cases hf1 : f = 1
      · subst hf1
        obtain ⟨m8, hm8, hsz8⟩ := big_size (P := Try.prog) (t := 62) (s := 64) (by kernel_rfl)
        have hm80 : ¬ m8 = 0 := by omega
        have hbl : (bs c.2.2).length = m8 := by rw [bs_length, HL.out c hcl, hm8]
        have hq : w2.cell? ⟨wr.heap.size, 0, none⟩ = some (.int .i64 c.1) ∧ w2.cell? ⟨wr.heap.size, 1, none⟩ = some (.int .i64 c.2.1) := ⟨hRg2 0 _ rfl, hRg2 1 _ rfl⟩
        obtain ⟨q0, q1⟩ := hq
        have hld8 := big_load0 Try.prog wr.heap.size 2 (bs c.2.2) m8 hbl w2.drew (fun j v hj => by
          have := hRg2 (2 + j) v (by rw [show (2 + j) = j + 1 + 1 by omega]; exact hj)
          rw [Nat.zero_add] at this
          exact this)
        have c6 := hD2.mem.2.1
        have HM8 := Lib.hid (And.intro hm8 hbl)
        have HA := Lib.hid (And.intro hD2 (And.intro hcr2 (And.intro hmn2 (And.intro hml2 (And.intro hFr2 (And.intro hI2 hF2))))))
        clear hm8 hbl hD2 hcr2 hmn2 hml2 hFr2 hRg2 hI2 hF2
        go_wp2_with fail
        go_still_tail 8, (by kernel_rfl)
        change wpList _ _ _ _ _ w2.drew
        obtain ⟨hD2, hcr2, hmn2, hml2, hFr2, hI2, hF2⟩ := HA.out
        refine wpList_place_store _ rfl _ _ _ _ rfl 62 Try.underlying78 lb (n1 + k) _ rfl (hml2.same rfl) (by unfold maxLen; omega) c.pl rfl (HW.out c hcl).1 (HW.out c hcl).2 (pgv c.2.2) rfl ?_
        intro w3 hml3 ht3
        have HK : StR w d conv soft seq size opn zv lb n1 down armed ill JT Inv (k + 1) (stl step (l.take (k + 1)) (σ, [], last)) w3 := by
          rw [HE.out]
          obtain ⟨x1, x2, x3, x4, x5⟩ := HX.out
          have hg3 := ht3.grown
          have hlk : lb < w2.heap.size := hml2.lt
          have hl0 := HLT.out
          have e : ∀ x, x < w2.heap.size → x ≠ lb → w3.heap[x]? = w2.heap[x]? := fun x hx h1 => hg3.block x hx (fun e => h1 (by injection e))
          refine ⟨cv', nb', hD2.same (e d hD2.lt (hD2.ne_map hml2)), ?_, x1, x2, hmn2.same (e nb' hmn2.lt (by omega)), ?_, ?_, ?_, ?_, ?_⟩
          · exact own_same hcr2 fun g' hg' => e g' (hcr2.lt g' hg').2 (fun h => hml2.ne_row hcr2 (h ▸ hg') rfl)
          · exact hml3
          · exact HJI.out _ _ _ hI2 fun x hx => e x (by have := (HJ.out x hx).1; omega) (HJ.out x hx).2.2.1
          · exact hFr2.andThen ((Fr.refl w2).drew.trans (Fr.of_grown (T := fun x => x = lb) hg3 (fun k e => by injection e with e; exact e.symm))) fun b hb h => .inr (.inl h)
          · simpa using x3
          · simp; omega
        have HK := Lib.hid HK
        clear hD2 hcr2 hmn2 hml2 hFr2 hI2 hF2 hml3 ht3 HA hld8 q0 q1 c6
        go_frame
        go_wp2
        go_roundw
        case rel => exact ⟨k + 1, by omega, by go_num, HK.out⟩
        case measure => simp [intOf]; omega
      have hq0 : (f == 0) = false := by simpa using hf0
      have hq1 : (f == 1) = false := by simpa using hf1
      have HK : StR w d conv soft seq size opn zv lb n1 down armed ill JT Inv (k + 1) (stl step (l.take (k + 1)) (σ, [], last)) w2 := by
        rw [HE.out]
        obtain ⟨x1, x2, x3, x4, x5⟩ := HX.out
        simp only [if_neg hf0, if_neg hf1]
        exact ⟨cv', nb', hD2, hcr2, x1, x2, hmn2, hml2.mono (by omega), hI2, hFr2, x3, by simp; omega⟩
      have HK := Lib.hid HK
      clear hD2 hcr2 hmn2 hml2 hFr2 hRg2 hI2 hF2
      go_wp2
      go_roundw
      case rel => exact ⟨k + 1, by omega, by go_num, HK.out⟩
      case measure => simp [intOf]; omega
    · obtain rfl : k = l.length := by omega
      rw [List.take_length] at hR
      have HR := Lib.hid hR
      clear hR
      go_wp2
      go_end0
      exact ⟨rfl, HR.out⟩
end
end Go.Proofs.Ythgjlofebicpiaa

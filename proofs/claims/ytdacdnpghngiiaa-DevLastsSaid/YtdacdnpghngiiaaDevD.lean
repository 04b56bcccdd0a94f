/-
  Package dev: hold: a sector is cached behind all others.
-/
import Derived.Test.YtdacdnpghngiiaaDevC
import Derived.StillTailTactics
import Derived.Maps.RangeWalk
import Derived.Deep.RegionLaw
namespace Go.Proofs.Ytdacdnpghngiiaa
open Go.RowKit Geom Zone Dev
set_option linter.unusedVariables false

abbrev newestV (l : List Wr) : Pl → Option Value := fun a => (newest l a).map fun i => .int .i64 (i : Int)
theorem elemW : Elem Try.prog 68 75 (.agg (Array.mk (.int .i64 0 :: .int .i64 0 :: List.replicate 64 (.int .u8 0)))) 66 80 := .of Try.underlying68 (by kernel_rfl) rfl (by omega)
theorem newestV_snoc (l : List Wr) (c : Wr) : updM (newestV l) c.pl (some (.int .i64 (l.length : Int))) = newestV (l ++ [c]) := by
  funext a
  unfold updM newestV
  rw [newest_snoc]
  split <;> rfl
/-- a value in a box of its own -/
theorem box_cells (w : World) (xs : List Value) (T : TypeId) (k : Nat) (u : Value) (h : xs[k]? = some u) : (w.alloc (.cells xs.toArray T)).cell? ⟨w.heap.size, k, none⟩ = some u := by
  rw [cell_of_row _ _ _ _ _ _ (MapKept.heap_alloc w _).1]
  simpa using h

section
variable {w : World} {d : Nat} {conv soft seq size opn : Int} {zv : Value} {lb : Nat} {cv : Value} {nb : Nat} {down : Bool} {armed ill : Int}

set_option maxRecDepth 100000 in
theorem hold_any (c : Wr) (l : List Wr) (n2 : Nat) (hc : c.2.2.length = 64) (hl : WOk l) (h1 : W64 c.1) (h2 : W64 c.2.1) (hll : l.length ≤ 100000) (hn2 : n2 ≤ 100000) (hD : DBlk w d conv soft seq size opn zv lb cv nb down armed ill)
    (hcv : w.ownsRow 0 75 66 cv l.length (wcs l)) (hm : MapIs w nb n2 (newestV l)) :
    Calls Try.prog 35 #[dp d, .agg (wc c).toArray] w fun x w' => x = .returned (.tuple #[]) ∧ ∃ cv', DBlk w' d conv soft seq size opn zv lb cv' nb down armed ill ∧
      w'.ownsRow 0 75 66 cv' (l ++ [c]).length (wcs (l ++ [c])) ∧ MapIs w' nb (n2 + 1) (newestV (l ++ [c])) ∧ Fr (fun k => k = d ∨ k = nb ∨ cv.ownBlock = some k) w w' ∧ (cv'.ownBlock = cv.ownBlock ∨ ∃ g, cv'.ownBlock = some g ∧ w.heap.size ≤ g) := by
  obtain ⟨A, cap, rfl⟩ := own_slice hcv
  have hlen : (wc c).length = 66 := wc_length hc
  have hw : ∀ w2 : World, (∀ k v, (wc c)[k]? = some v → w2.cell? ⟨w.heap.size, k, none⟩ = some v) → w2.cell? ⟨w.heap.size, 0, none⟩ = some (.int .i64 c.1) ∧ w2.cell? ⟨w.heap.size, 1, none⟩ = some (.int .i64 c.2.1) := fun w2 h => ⟨h 0 _ rfl, h 1 _ rfl⟩
  have hbx : ∀ k v, (wc c)[k]? = some v → (w.alloc (.cells (wc c).toArray 75)).cell? ⟨w.heap.size, k, none⟩ = some v := fun k v h => box_cells w _ _ k v h
  have hf0 : Fr (fun k => k = d ∨ k = nb ∨ (Value.slice A l.length cap).ownBlock = some k) w (w.alloc (.cells (wc c).toArray 75)) := (Fr.refl _).alloc _
  have hlt : w.heap.size < (w.alloc (.cells (wc c).toArray 75)).heap.size := by simp
  have hdl := hD.lt
  have hD1 : DBlk (w.alloc (.cells (wc c).toArray 75)) d conv soft seq size opn zv lb (.slice A l.length cap) nb down armed ill := hD.same (Below.heap_alloc _ _ _ hdl)
  have hcv1 := hcv.alloc (.cells (wc c).toArray 75)
  have hm1 := hm.same (w' := w.alloc (.cells (wc c).toArray 75)) (Below.heap_alloc _ _ _ hm.lt)
  have hnl := hm.lt
  go_enter Try.func35, Try.ntmps35
  go_wp2_with fail
  generalize World.alloc _ _ = w1 at hbx hf0 hlt hD1 hcv1 hm1 ⊢
  generalize w.heap.size = b at hw hbx hlt hdl hnl ⊢
  obtain ⟨q0, q1⟩ := hw w1 hbx
  obtain ⟨c5, c6, c7, c8⟩ := hD1.mem
  have hne := hD1.ne_map hm1
  have H := Lib.hid (And.intro hbx (And.intro hf0 (And.intro hcv1 hm1)))
  clear hbx hf0 hcv1 hD hcv hm hw
  go_still_tail 11, (by kernel_rfl)
  change wpList _ _ _ _ _ w1.drew
  refine wpList_place_store _ rfl _ _ _ _ rfl 3 Try.underlying67 nb n2 _ rfl (H.out.2.2.2.same rfl) (by unfold maxLen; omega) c.pl rfl h1 h2 _ rfl ?_
  intro w2 hm2 ht2
  have hg2 := ht2.grown
  have hD2 : DBlk w2 d conv soft seq size opn zv lb (.slice A l.length cap) nb down armed ill := hD1.same (hg2.block d hD1.lt (by simpa using hne))
  have q0 : w2.cell? ⟨b, 0, none⟩ = some (.int .i64 c.1) := hg2.cell q0 (by simp; omega)
  have hcv2 : w2.ownsRow 0 75 66 (.slice A l.length cap) l.length (wcs l) := own_same H.out.2.2.1 fun g hg => hg2.block g (H.out.2.2.1.lt g hg).2 (by have := hm1.ne_row H.out.2.2.1 hg; simp; omega)
  obtain ⟨c5', c6', c7', c8'⟩ := hD2.mem
  have f7 := hD2.frozen 7
  have hR : w2.rangeAt b 0 (wc c) := fun j v hj => by rw [Nat.zero_add]; exact hg2.cell (a := ⟨b, j, none⟩) (H.out.1 j v hj) (by simp; omega)
  obtain ⟨n, hn, hsz⟩ := big_size (P := Try.prog) (t := 75) (s := 66) (by kernel_rfl)
  have hlenn : (wc c).length = n := by rw [hlen, hn]
  have hld := big_load0 Try.prog b 0 (wc c) n hlenn
  have hn1 : ¬ 16777216 < n := by omega
  have hn0 : ¬ n = 0 := by omega
  have HN := Lib.hid hn
  clear hn
  have hne2 := Lib.hid hlen
  clear q0 q1 c5 c6 c7 c8 hlen c5' c6' c8'
  go_wp2_with fail
  go_frame
  have hv : (Value.int .i64 (l.length : Int)) = Value.int .i64 (l.length : Int) := rfl
  have hm2' : MapIs w2 nb (n2 + 1) (newestV (l ++ [c])) := by rw [← newestV_snoc]; exact hm2
  clear hv
  have HF := Lib.hid (fun (g3 cap3 : Nat) (w3 : World) (hown3 : w3.ownsRow 0 75 66 (.slice (some ⟨g3, 0, none⟩) (l.length + 1) cap3) (l.length + 1) (wcs l ++ wc c))
      (hg3 : (w2.drew.alloc (.cells (wc c).toArray 75)).grownBy w3 (Value.slice A l.length cap).ownBlock) (hat3 : (Value.slice A l.length cap).ownBlock = some g3 ∨ w2.heap.size ≤ g3) =>
    show ∃ cv', DBlk (w3.setCell ⟨d, 7, none⟩ (.slice (some ⟨g3, 0, none⟩) (l.length + 1) cap3)) d conv soft seq size opn zv lb cv' nb down armed ill ∧
      (w3.setCell ⟨d, 7, none⟩ (.slice (some ⟨g3, 0, none⟩) (l.length + 1) cap3)).ownsRow 0 75 66 cv' (l ++ [c]).length (wcs (l ++ [c])) ∧
      MapIs (w3.setCell ⟨d, 7, none⟩ (.slice (some ⟨g3, 0, none⟩) (l.length + 1) cap3)) nb (n2 + 1) (newestV (l ++ [c])) ∧
      Fr (fun k => k = d ∨ k = nb ∨ (Value.slice A l.length cap).ownBlock = some k) w (w3.setCell ⟨d, 7, none⟩ (.slice (some ⟨g3, 0, none⟩) (l.length + 1) cap3)) ∧
      (cv'.ownBlock = (Value.slice A l.length cap).ownBlock ∨ ∃ g, cv'.ownBlock = some g ∧ w.heap.size ≤ g) from by
    have hDs := hD2.lt
    have hms := hm2.lt
    have hnd : (Value.slice A l.length cap).ownBlock ≠ some d := fun h => hD2.ne_row hcv2 h (by decide) rfl
    have hnm : (Value.slice A l.length cap).ownBlock ≠ some nb := fun h => hm2.ne_row hcv2 h rfl
    have hD3 : DBlk w3 d conv soft seq size opn zv lb (.slice A l.length cap) nb down armed ill := hD2.same ((hg3.block d (by simp; omega) (fun e => hnd e.symm)).trans (Below.heap_alloc w2.drew _ _ hDs))
    have hm3 : MapIs w3 nb (n2 + 1) (newestV (l ++ [c])) := hm2'.same ((hg3.block nb (by simp; omega) (fun e => hnm e.symm)).trans (Below.heap_alloc w2.drew _ _ hms))
    have hgd : d ≠ g3 := hD3.ne_row hown3 rfl (by decide)
    have hnbd : d ≠ nb := hD3.ne_map hm3
    have e1 : (l ++ [c]).length = l.length + 1 := by simp
    have e2 : wcs (l ++ [c]) = wcs l ++ wc c := by rw [wcs_append, wcs_one]
    refine ⟨_, hD3.set7 _, ?_, hm3.same (heap_setCell_other _ _ _ _ (fun e => hnbd e.symm)), ?_, ?_⟩
    · rw [e1, e2]
      exact own_same hown3 fun g hg => heap_setCell_other _ _ _ _ (fun e => by injection hg with hg; exact hgd (e.symm.trans hg.symm))
    · have F1 := H.out.2.1
      have F2 : Fr (fun k => k = d ∨ k = nb ∨ (Value.slice A l.length cap).ownBlock = some k) w1 w2 := (Fr.refl w1).drew.trans (Fr.of_grown hg2 (fun k e => by injection e with e; exact .inr (.inl e.symm)))
      have F3 : Fr (fun k => k = d ∨ k = nb ∨ (Value.slice A l.length cap).ownBlock = some k) w2 w3 := ((Fr.refl w2).drew.alloc _).trans (Fr.of_grown hg3 (fun k e => .inr (.inr e)))
      exact ((F1.trans F2).trans F3).setCell _ _ (.inl rfl)
    · rcases hat3 with h | h
      · exact .inl h.symm
      · refine .inr ⟨g3, rfl, ?_⟩
        have s1 := H.out.2.1.size
        have s2 := hg2.size
        have s3 : w1.drew.heap.size = w1.heap.size := rfl
        omega)
  have hfold := fold_box Try.zeroCells75 66 (wc c) n hlenn
  have hda : ∀ (o : Obj) (k : Nat), (Value.slice A l.length cap).ownBlock = some d → False := fun o k h => hD2.ne_row hcv2 h (by decide) rfl
  have hK7 := Lib.hid (And.intro (fun (w3 : World) (hg3 : (w2.drew.alloc (.cells (wc c).toArray 75)).grownBy w3 (Value.slice A l.length cap).ownBlock) => show w3.cell? ⟨d, 7, none⟩ = some (.slice A l.length cap) from
      hg3.cell ((World.cell?_alloc_lt w2.drew _ ⟨d, 7, none⟩ hD2.lt).trans c7') (fun e => hda (.cells #[] 0) 0 e.symm))
    (fun (w3 : World) (hg3 : (w2.drew.alloc (.cells (wc c).toArray 75)).grownBy w3 (Value.slice A l.length cap).ownBlock) => show w3.frozen? ⟨d, 7, none⟩ = false from
      (World.frozen?_of_block (hg3.block d (by simp; have := hD2.lt; omega) (fun e => hda (.cells #[] 0) 0 e.symm))).trans ((World.frozen?_of_block (Below.heap_alloc w2.drew _ d hD2.lt)).trans f7)))
  have c7a : (w2.alloc (.cells (wc c).toArray 75)).cell? ⟨d, 7, none⟩ = some (.slice A l.length cap) := (World.cell?_alloc_lt w2 _ ⟨d, 7, none⟩ hD2.lt).trans c7'
  clear hda
  go_region_law (refine step_append_big _ rfl _ _ _ rfl 0 75 _ 66 80 elemW (.slice A l.length cap) l.length (wcs l) rfl (hcv2.alloc (.cells (wc c).toArray 75)) w2.heap.size (wc c) rfl hne2.out (fun j u hj => by rw [Addr.add_mid, Nat.zero_add]; exact box_cells w2 (wc c) _ j u hj) (fun u hu => wc_cells hu) (by unfold maxLen; omega) (by omega) (by simp) ?_; intro g3 cap3 w3 hown3 hg3 hat3; have c7w : w3.cell? ⟨d, 7, none⟩ = some (.slice A l.length cap) := hK7.out.1 w3 hg3; have f7w : w3.frozen? ⟨d, 7, none⟩ = false := hK7.out.2 w3 hg3)
  all_goals
    go_wp2
    go_end0
    exact ⟨rfl, HF.out _ _ _ hown3 hg3 (hat3.imp id fun e => by rw [e]; simp [World.drew])⟩
end
end Go.Proofs.Ytdacdnpghngiiaa

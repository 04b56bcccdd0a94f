/-
  DevJ DevK
-/
import Derived.Test.YthgjlofebicpiaaMg24
import Derived.Test.YthgjlofebicpiaaMg27
import Derived.Laws.CopyOwn
import Derived.Deep.RegionLaw
/-
  Package dev: tear: the first bytes of the sector that was being written.
-/
namespace Go.Proofs.Ythgjlofebicpiaa
open Go.RowKit Geom Zone Dev
set_option linter.unusedVariables false

namespace Dev
def z64 : List Int := List.replicate 64 0
def tearL (conv soft seq size opn : Int) (L : List Z) (last : Pl → Option Value) (c : Wr) (tn : Nat) (p : List Int) : List Z × (Pl → Option Value) :=
  if (writeL conv soft seq size opn L c.1 c.2.1).2 = 0 then ((writeL conv soft seq size opn L c.1 c.2.1).1.map pow, updM last c.pl (some (pgv (c.2.2.take tn ++ p.drop tn)))) else (L, last)
end Dev
theorem writeL_length (conv soft seq size opn : Int) (L : List Z) (zone off : Int) : (writeL conv soft seq size opn L zone off).1.length = L.length := by
  unfold writeL
  split
  · exact turnL_length _ _ _ _ _ _
  · rfl
theorem zero_page (w : World) : (zeroValue 62).run Try.prog w = .ok (pgv z64) w :=
  (zero_of_info (P := Try.prog) (t := 62) (v := pgv z64) (n := 64) (by kernel_rfl)).1 w

section
variable {w : World} {d : Nat} {conv soft seq size opn : Int} {zv : Value} {lb : Nat} {cv : Value} {nb : Nat} {down : Bool} {armed ill : Int}
set_option maxRecDepth 100000 in
set_option maxHeartbeats 4000000 in
theorem tear_any (gz n cz n1 : Nat) (L : List Z) (c : Wr) (tn : Nat) (last : Pl → Option Value) (p : List Int) (hc : c.2.2.length = 64) (h64 : W64 c.1 ∧ W64 c.2.1) (htn : tn ≤ 64) (hp : p.length = 64) (hlp : (last c.pl).getD (pgv z64) = pgv p)
    (hnl : n ≤ 1000) (H : Some conv seq size) (hns : (n : Int) = conv + seq) (hsoft : soft ≤ 65536) (hn1 : n1 ≤ 100000000)
    (hD : DBlk w d conv soft seq size opn (.slice (some ⟨gz, 0, none⟩) n cz) lb cv nb down armed ill) (hown : w.ownsRow 0 66 2 (.slice (some ⟨gz, 0, none⟩) n cz) n (zc L)) (hL : L.length = n) (hm : MapIs w lb n1 last) :
    Calls Try.prog 37 #[dp d, .agg (wc c).toArray, .int .i64 (tn : Int)] w fun e w' =>
      e = .returned (.tuple #[]) ∧ ∃ gz' cz', DBlk w' d conv soft seq size opn (.slice (some ⟨gz', 0, none⟩) n cz') lb cv nb down armed ill ∧ w'.ownsRow 0 66 2 (.slice (some ⟨gz', 0, none⟩) n cz') n (zc (tearL conv soft seq size opn L last c tn p).1) ∧
        MapIs w' lb (n1 + 1) (tearL conv soft seq size opn L last c tn p).2 ∧ (gz' = gz ∨ w.heap.size ≤ gz') ∧ Fr (fun k => k = d ∨ k = lb) w w' := by
  have hlen : (wc c).length = 66 := wc_length hc
  obtain ⟨w1, hw1⟩ : ∃ w1, w1 = w.alloc (.cells (wc c).toArray 84) := ⟨_, rfl⟩
  have hs1 : ∀ x, x < w.heap.size → w1.heap[x]? = w.heap[x]? := fun x hx => by rw [hw1]; exact Below.heap_alloc _ _ _ hx
  have hz1 : w1.heap.size = w.heap.size + 1 := by rw [hw1]; simp
  have hD1 : DBlk w1 d conv soft seq size opn (.slice (some ⟨gz, 0, none⟩) n cz) lb cv nb down armed ill := hD.same (hs1 _ hD.lt)
  have hbx : w1.rangeAt w.heap.size 0 (wc c) := fun j v hj => by rw [Nat.zero_add, hw1]; exact box_cells w _ _ j v hj
  have hF1 : Fr (fun k => k = d ∨ k = lb) w w1 := by rw [hw1]; exact (Fr.refl w).alloc _
  have hown1 : w1.ownsRow 0 66 2 (.slice (some ⟨gz, 0, none⟩) n cz) n (zc L) := own_same hown fun g hg => hs1 g (hown.lt g hg).2
  have hm1 : MapIs w1 lb n1 last := hm.same (hs1 _ hm.lt)
  have hgl := (hown.lt gz rfl).2
  have hdl := hD.lt
  have hll := hm.lt
  have hndl : d ≠ lb := hD.ne_map hm
  have hndz : d ≠ gz := hD.ne_row hown rfl (by decide)
  have hnlz : lb ≠ gz := hm.ne_row hown rfl
  have HZ := Lib.hid fun w' (hb : Below w1.heap.size w1 w') => zwrite_any conv soft seq size opn c.1 c.2.1 (some ⟨gz, 0, none⟩) n cz L w' hnl hL H hns (((Rd.own hown1).below hb).more hb.size) hsoft
  have HP := Lib.hid fun (A : Option Addr) (c2 : Nat) (M : List Z) (w' : World) (hM : M.length = n) (hr : Rd w' w'.heap.size A (zc M)) => zpower_any A n c2 M w' hnl hM (by have := H.1; have := H.2.1; omega) hr
  unfold tearL
  generalize hR : writeL conv soft seq size opn L c.1 c.2.1 = R at HZ ⊢
  obtain ⟨L', e⟩ := R
  have hRl : L'.length = n := by rw [← hL, ← writeL_length conv soft seq size opn L c.1 c.2.1, hR]
  have hSO : ∀ w', Below w1.heap.size w1 w' → w'.cell? ⟨d, 0, none⟩ = some (.int .i64 conv) ∧ w'.cell? ⟨d, 1, none⟩ = some (.int .i64 soft) ∧ w'.cell? ⟨d, 2, none⟩ = some (.int .i64 seq) ∧ w'.cell? ⟨d, 3, none⟩ = some (.int .i64 size) ∧ w'.cell? ⟨d, 4, none⟩ = some (.int .i64 opn) ∧
      w'.cell? ⟨d, 5, none⟩ = some (.slice (some ⟨gz, 0, none⟩) n cz) ∧ w'.cell? ⟨w.heap.size, 0, none⟩ = some (.int .i64 c.1) ∧ w'.cell? ⟨w.heap.size, 1, none⟩ = some (.int .i64 c.2.1) := by
    intro w' hb
    have hDw : DBlk w' d conv soft seq size opn (.slice (some ⟨gz, 0, none⟩) n cz) lb cv nb down armed ill := hD1.same (hb.block _ hD1.lt)
    obtain ⟨g0, g1, g2, g3, g4⟩ := hDw.geo
    exact ⟨g0, g1, g2, g3, g4, hDw.mem.1, (hb.cell (p := ⟨w.heap.size, 0, none⟩) (by simp; omega)).trans (hbx 0 _ rfl), (hb.cell (p := ⟨w.heap.size, 1, none⟩) (by simp; omega)).trans (hbx 1 _ rfl)⟩
  have SO := Lib.hid hSO
  have HA := Lib.hid (And.intro hD1 (And.intro hbx (And.intro hF1 (And.intro hown1 (And.intro hm1 (And.intro hz1 (And.intro hlen (And.intro hndl (And.intro hndz hnlz)))))))))
  have HB := Lib.hid (And.intro hgl (And.intro hdl (And.intro hll (And.intro hc (And.intro hp hlp)))))
  clear hD1 hbx hF1 hown1 hm1 hz1 hlen hndl hndz hnlz hgl hdl hll hlp hSO hs1 hD hown hm hL hc hp
  go_enter Try.func37, Try.ntmps37
  go_wp2_with fail
  rw [← hw1]
  clear hw1
  go_region_held3 (fun w' => w'.cell? ⟨d, 0, none⟩ = some (.int .i64 conv) ∧ w'.cell? ⟨d, 1, none⟩ = some (.int .i64 soft) ∧ w'.cell? ⟨d, 2, none⟩ = some (.int .i64 seq) ∧ w'.cell? ⟨d, 3, none⟩ = some (.int .i64 size) ∧ w'.cell? ⟨d, 4, none⟩ = some (.int .i64 opn) ∧
      w'.cell? ⟨d, 5, none⟩ = some (.slice (some ⟨gz, 0, none⟩) n cz) ∧ w'.cell? ⟨w.heap.size, 0, none⟩ = some (.int .i64 c.1) ∧ w'.cell? ⟨w.heap.size, 1, none⟩ = some (.int .i64 c.2.1))
    (first | exact SO.out _ (Below.refl _ _).drew | exact SO.out _ B2)
    (((with_reducible refine (HZ.out _ (Below.refl _ _).drew).mono ?_); rintro x w2 ⟨g2, c2, rfl, hown2, hb2⟩; have B2 : Below w1.heap.size w1 w2 := bthen (Below.refl _ _).drew hb2))
  obtain ⟨hD1, hbx, hF1, hown1, hm1, hz1, hlen, hndl, hndz, hnlz⟩ := HA.out
  obtain ⟨hgl, hdl, hll, hc, hp, hlp⟩ := HB.out
  have hs2 : ∀ x, x < w1.heap.size → w2.heap[x]? = w1.heap[x]? := fun x hx => B2.block x hx
  have hD2 : DBlk w2 d conv soft seq size opn (.slice (some ⟨gz, 0, none⟩) n cz) lb cv nb down armed ill := hD1.same (hs2 _ hD1.lt)
  have hm2 : MapIs w2 lb n1 last := hm1.same (hs2 _ hm1.lt)
  have hF2 : Fr (fun k => k = d ∨ k = lb) w w2 := hF1.trans (Fr.of_below B2)
  have hown2' : w2.ownsRow 0 66 2 (.slice (some ⟨gz, 0, none⟩) n cz) n (zc L) := own_same hown1 fun g hg => hs2 g (hown1.lt g hg).2
  have hbx2 : w2.rangeAt w.heap.size 0 (wc c) := fun j v hj => (World.cell?_of_block (hs2 w.heap.size (by omega))).trans (hbx j v hj)
  have hg2 := own_at hown2 (by have := H.1; have := H.2.1; omega)
  have hg2' : w1.heap.size ≤ g2 := by obtain ⟨g', e', l1, l2⟩ := hg2; injection e' with e'; injection e' with e'; have : w1.drew.heap.size = w1.heap.size := rfl; omega
  by_cases he : e = 0
  · subst he
    have hP := HP.out (some ⟨g2, 0, none⟩) c2 L' w2 hRl (Rd.own hown2)
    have HX := Lib.hid (And.intro hD2 (And.intro hm2 (And.intro hF2 (And.intro hbx2 (And.intro hs2 hg2')))))
    have HPP := Lib.hid hP
    have hlt2 : w1.heap.size ≤ w2.heap.size := B2.size
    clear hD2 hm2 hF2 hbx2 hs2 hg2 hg2' hP hown2 hown2' hb2 B2 hD1 hbx hF1 hown1 hm1 hndl hndz hnlz hlen hgl hdl hll hc hp hlp hRl SO HZ HP
    go_wp2_with fail
    refine HPP.out.mono ?_
    rintro x w3 ⟨g3, c3, rfl, hown3, hb3⟩
    obtain ⟨hD2, hm2, hF2, hbx2, hs2, hg2'⟩ := HX.out
    have hD3 : DBlk w3 d conv soft seq size opn (.slice (some ⟨gz, 0, none⟩) n cz) lb cv nb down armed ill := hD2.same (hb3.block _ hD2.lt)
    have c5 := hD3.mem.1
    have f5 := hD3.frozen 5
    have hlt3 := hb3.size
    have hg3 : w2.heap.size ≤ g3 := by obtain ⟨g', e', l1, l2⟩ := own_at hown3 (by have := H.1; have := H.2.1; omega); injection e' with e'; injection e' with e'; omega
    have hD4 := hD3.set5 (.slice (some ⟨g3, 0, none⟩) n c3)
    have hdl := HB.out.2.1
    have hll := HB.out.2.2.1
    have hz1 := HA.out.2.2.2.2.2.1
    have hndl := HA.out.2.2.2.2.2.2.2.1
    have hm4 : MapIs (w3.setCell ⟨d, 5, none⟩ (.slice (some ⟨g3, 0, none⟩) n c3)) lb n1 last := hm2.same ((heap_setCell_other _ _ _ _ (fun e => hndl e.symm)).trans (hb3.block _ hm2.lt))
    have hbx4 : (w3.setCell ⟨d, 5, none⟩ (.slice (some ⟨g3, 0, none⟩) n c3)).rangeAt w.heap.size 0 (wc c) := fun j v hj => (World.cell?_of_block ((heap_setCell_other _ _ _ _ (show w.heap.size ≠ d by omega)).trans (hb3.block w.heap.size (by omega)))).trans (hbx2 j v hj)
    have hown4 : (w3.setCell ⟨d, 5, none⟩ (.slice (some ⟨g3, 0, none⟩) n c3)).ownsRow 0 66 2 (.slice (some ⟨g3, 0, none⟩) n c3) n (zc (L'.map pow)) :=
      own_base0 (own_same hown3 fun g hg => heap_setCell_other _ _ _ _ (by injection hg with hg; have hg : g3 = g := hg; have := hD2.lt; show g ≠ d; omega)) (Nat.zero_le _)
    have hF4 : Fr (fun k => k = d ∨ k = lb) w (w3.setCell ⟨d, 5, none⟩ (.slice (some ⟨g3, 0, none⟩) n c3)) := (hF2.trans (Fr.of_below hb3)).setCell _ _ (.inl rfl)
    have hz4 : w1.heap.size ≤ (w3.setCell ⟨d, 5, none⟩ (.slice (some ⟨g3, 0, none⟩) n c3)).heap.size := by simp [World.setCell]; omega
    have HY := Lib.hid (And.intro hD4 (And.intro hm4 (And.intro hbx4 (And.intro hown4 (And.intro hF4 (And.intro hz4 hg3))))))
    clear hD4 hm4 hbx4 hown4 hF4 hz4 hD2 hm2 hF2 hbx2 hs2 hg2' hD3 hown3 hb3 hdl hll hz1 hndl HX
    go_wp2_with fail
    generalize w3.setCell ⟨d, 5, none⟩ (.slice (some ⟨g3, 0, none⟩) n c3) = w4 at HY ⊢
    have c6 := HY.out.1.mem.2.1
    have q0 : w4.cell? ⟨w.heap.size, 0, none⟩ = some (.int .i64 c.1) := HY.out.2.2.1 0 _ rfl
    have q1 : w4.cell? ⟨w.heap.size, 1, none⟩ = some (.int .i64 c.2.1) := HY.out.2.2.1 1 _ rfl
    have hm4 := HY.out.2.1
    have hlk : ∀ w' : World, MapIs w' lb n1 last → (Instr.lookup 78 (.map (some lb)) (.agg #[.int .i64 c.1, .int .i64 c.2.1]) false).run Try.prog w' = .ok (.agg (bs p).toArray) w' := fun w' hm' => by
      have := hm'.look (a := c.pl) Try.underlying78 (zero_page w') h64.1 h64.2
      rw [HB.out.2.2.2.2.2] at this
      exact this
    have hbp : (bs p).length = 64 := by rw [bs_length]; exact HB.out.2.2.2.2.1
    obtain ⟨m8, hm8, hsz8⟩ := big_size (P := Try.prog) (t := 62) (s := 64) (by kernel_rfl)
    have hbm : (bs p).length = m8 := by rw [hbp, hm8]
    obtain ⟨Z, hZ, hz0⟩ : ∃ Z : Array Value, Z.size = 64 ∧ ∀ w' : World, (zeroValue 62).run Try.prog w' = .ok (.agg Z) w' := ⟨(bs z64).toArray, rfl, fun w' => zero_page w'⟩
    have hst : ∀ w' : World, (storeCells ⟨w'.heap.size, 0, none⟩ (bs p) 0).run Try.prog (w'.alloc (.cells Z 62)) = .ok () (w'.alloc (.cells (bs p).toArray 62)) := fun w' =>
      run_storeCells_new (P := Try.prog) w' 62 Z (bs p).toArray (by rw [List.size_toArray, hbp]; kernel_rfl) (by simp [hbp, hZ]) (all_oneCell_toArray fun u hu => bs_one _ _ hu)
    have hm80 : ¬ m8 = 0 := by omega
    have HM := Lib.hid (And.intro hm8 hbp)
    have hSO4 : ∀ w', Below w4.heap.size w4 w' → w'.cell? ⟨d, 6, none⟩ = some (.map (some lb)) ∧ w'.cell? ⟨w.heap.size, 0, none⟩ = some (.int .i64 c.1) ∧ w'.cell? ⟨w.heap.size, 1, none⟩ = some (.int .i64 c.2.1) ∧ MapIs w' lb n1 last := by
      intro w' hb
      have hz4 := HY.out.2.2.2.2.2.1
      have hz1 := HA.out.2.2.2.2.2.1
      exact ⟨(hb.cell (p := ⟨d, 6, none⟩) HY.out.1.lt).trans c6, (hb.cell (p := ⟨w.heap.size, 0, none⟩) (by simp; omega)).trans q0, (hb.cell (p := ⟨w.heap.size, 1, none⟩) (by simp; omega)).trans q1, hm4.same (hb.block _ hm4.lt)⟩
    have SO4 := Lib.hid hSO4
    clear hSO4 hm8 hbp
    obtain ⟨c6a, q0a, q1a, hm4a⟩ := SO4.out (w4.alloc (.cells Z 62)) ((Below.refl _ _).alloc (Nat.le_refl _) _)
    have hlk1 := hlk w4.drew hm4
    have hlk2 := hlk (w4.alloc (.cells Z 62)).drew hm4a
    have hst1 : (storeCells ⟨w4.heap.size, 0, none⟩ (bs p) 0).run Try.prog (w4.alloc (.cells Z 62)).drew = .ok () (w4.alloc (.cells (bs p).toArray 62)).drew := hst w4.drew
    clear hlk hst
    have HZ8 := Lib.hid hZ
    clear hZ hm4a hm4
    apply wp_meet
    · go_region_law (fail)
      all_goals exact ⟨rfl, rfl⟩
    have hw5 : ∀ x, x < w4.heap.size → ((w4.alloc (.cells (bs p).toArray 62)).drew).heap[x]? = w4.heap[x]? := fun x hx => Below.heap_alloc _ _ _ hx
    have hp5 : ((w4.alloc (.cells (bs p).toArray 62)).drew).heap[w4.heap.size]? = some (.cells (bs p).toArray 62 (0, 0)) := (MapKept.heap_alloc w4 _).1
    have hF5 : Fr (fun k => k = d ∨ k = lb) w ((w4.alloc (.cells (bs p).toArray 62)).drew) := (HY.out.2.2.2.2.1.alloc _).drew
    have hz5 : ((w4.alloc (.cells (bs p).toArray 62)).drew).heap.size = w4.heap.size + 1 := by show (w4.alloc _).heap.size = _; simp
    have HV := Lib.hid (And.intro hw5 (And.intro hF5 hz5))
    clear hw5 hF5 hz5 c6 q0 q1 c6a q0a q1a hlk1 hlk2 hst1 hz0
    go_wp2_with fail
    generalize (w4.alloc (.cells (bs p).toArray 62)).drew = w5 at HV hp5 ⊢
    obtain ⟨hD4, hm4, hbx4, hown4, hF4, hz4, hg3⟩ := HY.out
    obtain ⟨hw5, hF5, hz5⟩ := HV.out
    have hz1 := HA.out.2.2.2.2.2.1
    have hdl := HB.out.2.1
    have hll := HB.out.2.2.1
    have hb4 : w.heap.size < w4.heap.size := by omega
    have hbx5 : ∀ j v, (wc c)[j]? = some v → w5.cell? ⟨w.heap.size, j, none⟩ = some v := fun j v hj => (World.cell?_of_block (hw5 w.heap.size hb4)).trans (by have := hbx4 j v hj; rwa [Nat.zero_add] at this)
    have hsrc : ∀ j v, (bs (c.2.2.take tn))[j]? = some v → w5.cell? ((⟨w.heap.size, 2, none⟩ : Addr).add j) = some v := fun j v hj => by
      rw [Addr.add_mid]
      refine hbx5 (2 + j) v ?_
      rw [show 2 + j = j + 1 + 1 by omega]
      show (bs c.2.2)[j]? = some v
      rw [bs_take, List.getElem?_take] at hj
      split at hj
      · exact hj
      · cases hj
    have hcn : (bs (c.2.2.take tn)).length = Nat.min tn tn := by rw [bs_length, List.length_take, HB.out.2.2.2.1]; show min tn 64 = min tn tn; omega
    have hfit : 0 + (bs (c.2.2.take tn)).length ≤ (bs p).length := by rw [hcn, HM.out.2]; show 0 + min tn tn ≤ 64; omega
    have HC := Lib.hid (And.intro hp5 (And.intro hsrc (And.intro hcn hfit)))
    have HW5 := Lib.hid (And.intro hbx5 (And.intro hb4 (And.intro hdl hll)))
    clear hp5 hsrc hcn hfit hbx5 hD4 hm4 hbx4 hown4 hF4 hz4 hg3 hw5 hF5 hz5 hb4 hdl hll hz1
    have htI : (tn : Int) ≤ 64 := by omega
    generalize hbp4 : w4.heap.size = bp at HC ⊢
    go_region_law (refine step_copy_splice rfl _ _ _ _ rfl 5 Try.underlying41 (by kernel_rfl) (some ⟨bp, 0, none⟩) (some ⟨w.heap.size, 2, none⟩) tn 64 tn 64 rfl rfl bp 0 (bs p) 62 HC.out.1 (bs (c.2.2.take tn)) HC.out.2.2.1 (fun _ => ⟨rfl, _, rfl, HC.out.2.1⟩) HC.out.2.2.2 (fun u hu => bs_one _ _ hu) bp w5 (Below.refl _ _).drew (Nat.le_refl _) ?_; intro w6 hg6 hb6)
    obtain ⟨hD4, hm4, hbx4, hown4, hF4, hz4, hg3⟩ := HY.out
    obtain ⟨hw5, hF5, hz5⟩ := HV.out
    obtain ⟨hbx5, hb4, hdl, hll⟩ := HW5.out
    have hz1 := HA.out.2.2.2.2.2.1
    have hndl := HA.out.2.2.2.2.2.2.2.1
    have hs6 : ∀ x, x < bp → w6.heap[x]? = w5.heap[x]? := fun x hx => hb6.block x hx
    have hD5 : DBlk w5 d conv soft seq size opn (.slice (some ⟨g3, 0, none⟩) n c3) lb cv nb down armed ill := hD4.same (hw5 _ hD4.lt)
    have hD6 : DBlk w6 d conv soft seq size opn (.slice (some ⟨g3, 0, none⟩) n c3) lb cv nb down armed ill := hD5.same (hs6 _ (by have := hD4.lt; omega))
    have hm6 : MapIs w6 lb n1 last := hm4.same ((hs6 lb (by have := hm4.lt; omega)).trans (hw5 lb hm4.lt))
    have hg3l := (hown4.lt g3 rfl).2
    have hown6 : w6.ownsRow 0 66 2 (.slice (some ⟨g3, 0, none⟩) n c3) n (zc (L'.map pow)) := own_same hown4 fun g hg => by
      injection hg with hg
      have hg : g3 = g := hg
      subst hg
      exact (hs6 g3 (by omega)).trans (hw5 g3 hg3l)
    have hq : ∀ j v, (wc c)[j]? = some v → w6.cell? ⟨w.heap.size, j, none⟩ = some v := fun j v hj => (World.cell?_of_block (hs6 w.heap.size (by omega))).trans (hbx5 j v hj)
    have q0 : w6.cell? ⟨w.heap.size, 0, none⟩ = some (.int .i64 c.1) := hq 0 _ rfl
    have q1 : w6.cell? ⟨w.heap.size, 1, none⟩ = some (.int .i64 c.2.1) := hq 1 _ rfl
    have c6 := hD6.mem.2.1
    have hsp : splice (bs p) 0 (bs (c.2.2.take tn)) = bs (c.2.2.take tn ++ p.drop tn) := by
      have hl : (bs (c.2.2.take tn)).length = tn := by rw [bs_length, List.length_take, HB.out.2.2.2.1]; omega
      unfold splice
      rw [hl, bs_append, bs_drop]
      simp
    have hg6 : w6.heap[bp]? = some (.cells (bs (c.2.2.take tn ++ p.drop tn)).toArray 62 (0, 0)) := by have := hg6.out; rwa [hsp] at this
    have hpl : (bs (c.2.2.take tn ++ p.drop tn)).length = m8 := by rw [bs_length, List.length_append, List.length_take, List.length_drop, HB.out.2.2.2.1, HB.out.2.2.2.2.1, HM.out.1]; omega
    have hld6 := big_load0 Try.prog bp 0 (bs (c.2.2.take tn ++ p.drop tn)) m8 hpl w6.drew (fun j v hj => by
      rw [Nat.zero_add]
      have := cell_of_row w6 bp j _ _ _ hg6
      exact this.trans (by simpa using hj))
    have HE := Lib.hid (And.intro hD6 (And.intro hm6 (And.intro hown6 (And.intro hF5 (And.intro hs6 (And.intro hg3l (And.intro hz5 (And.intro hndl (And.intro hg3 (And.intro hz1 (And.intro hb6 (And.intro hb4 hz4))))))))))))
    clear hD4 hm4 hbx4 hown4 hF4 hz4 hg3 hw5 hF5 hz5 hbx5 hb4 hdl hll hz1 hndl hs6 hD5 hD6 hm6 hg3l hown6 hq hsp hg6 hpl hb6
    go_wp2_with fail
    go_still_tail 7, (by kernel_rfl)
    change wpList _ _ _ _ _ w6.drew
    obtain ⟨hD6, hm6, hown6, hF5, hs6, hg3l, hz5, hndl, hg3, hz1, hb6, hb4, hz4⟩ := HE.out
    refine wpList_place_store _ rfl _ _ _ _ rfl 62 Try.underlying78 lb n1 _ rfl (hm6.same rfl) (by unfold maxLen; omega) c.pl rfl h64.1 h64.2 (pgv (c.2.2.take tn ++ p.drop tn)) rfl ?_
    intro w7 hm7 ht7
    have hg7 := ht7.grown
    have e7 : ∀ x, x < w6.heap.size → x ≠ lb → w7.heap[x]? = w6.heap[x]? := fun x hx h1 => hg7.block x hx (fun e => h1 (by injection e))
    have h7 : DBlk w7 d conv soft seq size opn (.slice (some ⟨g3, 0, none⟩) n c3) lb cv nb down armed ill ∧ w7.ownsRow 0 66 2 (.slice (some ⟨g3, 0, none⟩) n c3) n (zc (L'.map pow)) ∧ MapIs w7 lb (n1 + 1) (updM last c.pl (some (pgv (c.2.2.take tn ++ p.drop tn)))) ∧ (g3 = gz ∨ w.heap.size ≤ g3) ∧ Fr (fun k => k = d ∨ k = lb) w w7 := by
      refine ⟨hD6.same (e7 _ hD6.lt hndl), own_same hown6 fun g hg => e7 g (hown6.lt g hg).2 (fun h => hm6.ne_row hown6 (h ▸ hg) rfl), hm7, .inr (by omega), ?_⟩
      have hF6 : Fr (fun k => k = d ∨ k = lb) w w6 := hF5.andThen (U := fun k => bp ≤ k) ⟨hb6.os, hb6.tape, hb6.output, hb6.size, fun k hk hu => hb6.block k (by omega)⟩ (fun b hb hu => by omega)
      exact (hF6.drew).trans (Fr.of_grown hg7 (fun k e => by injection e with e; exact .inr e.symm))
    have H7 := Lib.hid h7
    clear h7 hD6 hm6 hown6 hF5 hs6 hg3l hz5 hndl hg3 hz1 hb6 hb4 hz4 hm7 ht7 hg7 e7 hld6
    go_frame
    go_wp2
    go_end0
    exact ⟨rfl, g3, c3, H7.out⟩
  · have hq : (e != 0) = true := by simpa using he
    have H7 : DBlk w2 d conv soft seq size opn (.slice (some ⟨gz, 0, none⟩) n cz) lb cv nb down armed ill ∧ w2.ownsRow 0 66 2 (.slice (some ⟨gz, 0, none⟩) n cz) n (zc L) ∧ MapIs w2 lb (n1 + 1) last ∧ (gz = gz ∨ w.heap.size ≤ gz) ∧ Fr (fun k => k = d ∨ k = lb) w w2 :=
      ⟨hD2, hown2', hm2.mono (by omega), .inl rfl, hF2⟩
    have H7 := Lib.hid H7
    have HE := Lib.hid he
    clear hD2 hm2 hF2 hown2' hbx2 hg2 hg2' hs2 he hD1 hbx hF1 hown1 hm1 hndl hndz hnlz hlen hgl hdl hll hc hp hlp hRl hown2 hb2 B2
    go_wp2
    first
      | (go_end0; rw [if_neg HE.out]; exact ⟨rfl, gz, cz, H7.out⟩)
      | exact bodyPost_ret (v := .tuple #[]) (by simp [results, Try.results37, go_sem]) rfl ⟨rfl, gz, cz, H7.out.1, H7.out.2.1, H7.out.2.2.1, .inl rfl, H7.out.2.2.2.2⟩
end
end Go.Proofs.Ythgjlofebicpiaa

/-
  Package dev: a device, said in one word; a crash.
-/
namespace Go.Proofs.Ythgjlofebicpiaa
open Go.RowKit Geom Zone Dev
set_option linter.unusedVariables false

/-- where all orders of a region come to one end, but for what a call has made -/
def MeetE (A : World → Nat → Nat → Act) (W : World → Nat → Nat → World) (R : World → Nat → Nat → Prop) : Exit → Act → World → Prop
  | .normal, a, w => ∃ w5 g c, R w5 g c ∧ a = A w5 g c ∧ w = W w5 g c
  | _, _, _ => False
theorem wp_meetE {P : Program} {c : Code} {Q : Exit → Act → World → Prop} {a : Act} {w : World} {A : World → Nat → Nat → Act} {W : World → Nat → Nat → World} (R : World → Nat → Nat → Prop) (h : c.wp P (MeetE A W R) a w)
    (h2 : ∀ w5 g c, R w5 g c → Q .normal (A w5 g c) (W w5 g c)) : c.wp P Q a w :=
  Code.wp_mono (fun e a' w' hm => by
    cases e <;> first | exact (hm : False).elim | (obtain ⟨w5, g, c, hr, rfl, rfl⟩ := (hm : ∃ w5 g c, R w5 g c ∧ a' = A w5 g c ∧ w' = W w5 g c); exact h2 w5 g c hr)) h

section
variable {w : World} {d : Nat} {conv soft seq size opn : Int} {zv : Value} {lb : Nat} {cv : Value} {nb : Nat} {down : Bool} {armed ill : Int}
variable {n cz gz bl bt be bx bd bs' bw bk gk : Nat} {keepA : Option Addr} {kn kc : Nat} {keep : List Int} {soft0 tear : Int}

theorem LvI.dep {w' : World} {sf : Int} {kept : List Int} (h : LvI w d bd bs' bw bk gk keepA kn kc keep soft0 tear n sf kept) (e : ∀ x, x = bd ∨ x = bs' ∨ x = bw ∨ x = bk ∨ x = gk ∨ (∃ ad, keepA = some ad ∧ ints keep ≠ [] ∧ x = ad.block) → w'.heap[x]? = w.heap[x]?) :
    LvI w' d bd bs' bw bk gk keepA kn kc keep soft0 tear n sf kept := by
  obtain ⟨hb, hs', hw, hk, hrow, hkr, hkl, hk64, hk0, hap⟩ := h
  refine ⟨hb.same (e _ (.inl rfl)), hs'.same (e _ (.inr (.inl rfl))), hw.same (e _ (.inr (.inr (.inl rfl)))), hk.same (e _ (.inr (.inr (.inr (.inl rfl))))), own_same hrow fun g hg => e g (.inr (.inr (.inr (.inr (.inl ?_))))), ?_, hkl, hk64, hk0, hap⟩
  · injection hg with hg; exact hg.symm
  · intro hn
    obtain ⟨ad, ha, hl, hc⟩ := hkr hn
    have hc' : ∀ j u, (ints keep)[j]? = some u → w'.cell? (ad.add j) = some u := fun j u hu => (World.cell?_of_block (e _ (by rw [addr_add_block]; exact (.inr (.inr (.inr (.inr (.inr ⟨ad, ha, hn, rfl⟩)))))))).trans (hc j u hu)
    refine ⟨ad, ha, ?_, hc'⟩
    obtain ⟨x, r, hx⟩ : ∃ x r, ints keep = x :: r := by
      cases hk : ints keep with
      | nil => exact absurd hk hn
      | cons x r => exact ⟨x, r, rfl⟩
    have := World.block_lt_of_cell? w' (ad.add 0) (hc' 0 x (by rw [hx]; rfl))
    rwa [addr_add_block] at this

/-- the blocks that the closure of a crash looks at -/
def CrJ (gz bl bt be bx bd bs bw bk gk : Nat) (keepA : Option Addr) (keep : List Int) (k : Nat) : Prop :=
  k = gz ∨ k = bl ∨ k = bt ∨ k = be ∨ k = bx ∨ k = bd ∨ k = bs ∨ k = bw ∨ k = bk ∨ k = gk ∨ (∃ ad, keepA = some ad ∧ ints keep ≠ [] ∧ k = ad.block)
theorem CrI.dep {w' : World} {s : Cst} (h : CrI w d n cz gz bl bt be bx bd bs' bw bk gk keepA kn kc keep soft0 tear s) (e : ∀ k, CrJ gz bl bt be bx bd bs' bw bk gk keepA keep k → w'.heap[k]? = w.heap[k]?) :
    CrI w' d n cz gz bl bt be bx bd bs' bw bk gk keepA kn kc keep soft0 tear s := by
  obtain ⟨h1, h2, h3, h4, h5, h6, h7, h8, h9⟩ := h
  unfold CrJ at e
  refine ⟨h1.same (e _ (by simp)), h2.same (e _ (by simp)), h3.same (e _ (by simp)), h4.same (e _ (by simp)), h5.dep fun x hx => e x ?_, own_same h6 fun g hg => e g (by injection hg with hg; exact .inl hg.symm), h7, h8, h9⟩
  rcases hx with rfl | rfl | rfl | rfl | rfl | hx
  · simp
  · simp
  · simp
  · simp
  · simp
  · exact .inr (.inr (.inr (.inr (.inr (.inr (.inr (.inr (.inr (.inr hx)))))))))
end

namespace Dev
/-- a device, plainly -/
structure Dv where
  conv : Int
  soft : Int
  seq : Int
  size : Int
  opn : Int
  n : Nat
  L : List Z
  last : Pl → Option Value
  use : Nat
  cache : List Wr
  down : Bool
  armed : Int
  ill : Int
/-- a crash, plainly: what is left, what stands where; 'p': what stood at the last sector's place -/
def crashS (D : Dv) (keep : List Int) (soft0 : Int) : Cst × List Wr × (Pl → Option Value) :=
  stl (crs D.conv keep) D.cache (⟨soft0, List.replicate D.n 0, true, (0, 0, z64), D.L⟩, [], D.last)
end Dev
theorem wc_zero : (wc ((0, 0, z64) : Wr)).toArray = Try.zeroCells84 := by kernel_rfl

/-- 'Dev T w d D': block d is the device D, in blocks of T -/
def DevIs (T : Nat → Prop) (w : World) (d : Nat) (D : Dv) : Prop :=
  ∃ gz cz lb cv nb, DBlk w d D.conv D.soft D.seq D.size D.opn (.slice (some ⟨gz, 0, none⟩) D.n cz) lb cv nb D.down D.armed D.ill ∧ w.ownsRow 0 66 2 (.slice (some ⟨gz, 0, none⟩) D.n cz) D.n (zc D.L) ∧
    w.ownsRow 0 84 66 cv D.cache.length (wcs D.cache) ∧ MapIs w lb D.use D.last ∧ MapIs w nb D.cache.length (newestV D.cache) ∧ T d ∧ T gz ∧ T lb ∧ T nb ∧ (∀ g, cv.ownBlock = some g → T g) ∧ lb ≠ nb
/-- what all devices keep to -/
structure DvOk (D : Dv) : Prop where
  ok : Ok D.conv D.soft D.seq D.size D.opn
  ns : (D.n : Int) = D.conv + D.seq
  nl : D.n ≤ 1000
  fit : Fit D.conv D.seq D.size D.opn D.L
  wok : WOk D.cache
  place : ∀ c ∈ D.cache, 0 ≤ c.1 ∧ c.1 < D.n ∧ 0 ≤ c.2.1 ∧ c.2.1 < sectors D.conv D.soft D.seq D.size c.1
  pages : ∀ a v, D.last a = some v → ∃ p : List Int, p.length = 64 ∧ v = pgv p
  use : D.use ≤ 10000000
  cl : D.cache.length ≤ 100000
  ill0 : 0 ≤ D.ill
  ill1 : D.ill ≤ 1000000
  arm0 : 0 ≤ D.armed
  arm1 : D.armed ≤ 9223372036854775807
end Go.Proofs.Ythgjlofebicpiaa

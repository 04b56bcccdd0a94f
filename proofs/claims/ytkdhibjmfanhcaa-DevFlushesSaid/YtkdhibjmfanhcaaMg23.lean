/-
  DevT DevU
-/
import Derived.Test.YtkdhibjmfanhcaaMg22
/-
  Package dev: Reset.
-/
namespace Go.Proofs.Ytkdhibjmfanhcaa
open Go.RowKit Geom Zone Dev
set_option linter.unusedVariables false

namespace Dev
def dropTo (f : Pl → Option Value) (z : Int) (k : Nat) : Pl → Option Value := fun a => if a.1 = z ∧ 0 ≤ a.2 ∧ a.2 < k then none else f a
theorem dropTo_zero (f : Pl → Option Value) (z : Int) : dropTo f z 0 = f := by
  funext a
  exact if_neg (by omega)
theorem dropTo_succ (f : Pl → Option Value) (z : Int) (k : Nat) : updM (dropTo f z k) (z, (k : Int)) none = dropTo f z (k + 1) := by
  funext a
  unfold updM dropTo
  by_cases h : a = (z, (k : Int))
  · rw [if_pos h, if_pos]
    subst h
    simp
    omega
  · rw [if_neg h]
    by_cases h2 : a.1 = z ∧ 0 ≤ a.2 ∧ a.2 < (k : Int)
    · rw [if_pos h2, if_pos]
      obtain ⟨x, y, z⟩ := h2
      exact ⟨x, y, by push_cast; omega⟩
    · rw [if_neg h2, if_neg]
      rintro ⟨x, y, u⟩
      push_cast at u
      refine h2 ⟨x, y, ?_⟩
      rcases Int.lt_or_le a.2 k with h3 | h3
      · exact h3
      · exact absurd (Prod.ext x (show a.2 = (k : Int) by omega)) h
def resetS (D : Dv) (z : Int) : Dv := { sortD (zstep z 2) D with last := dropTo (sortD (zstep z 2) D).last z D.size.toNat }
end Dev

section
variable {w : World} {d : Nat} {T : Nat → Prop} {D : Dv}
set_option maxRecDepth 100000 in
set_option maxHeartbeats 1000000 in
theorem reset1_any (b0 b1 : Nat) (z : Int) (hz64 : W64 z) (hT : ∀ k, w.heap.size ≤ k → T k) (hO : DvOk D) (hI : DevIs T w d D) (h0 : Box w b0 31 [dp d]) (h1 : Box w b1 3 [.int .i64 z]) :
    Calls Try.prog 53 #[.pointer (some ⟨b0, 0, none⟩), .pointer (some ⟨b1, 0, none⟩)] w fun x w' => x = .returned (.tuple #[]) ∧ DevIs T w' d (resetS D z) ∧ Fr T w w' := by
  have HZ := Lib.hid fun w' => ofZone_any z 2 w'
  have c0 : w.cell? ⟨b0, 0, none⟩ = some (dp d) := h0.cell 0
  have c1 : w.cell? ⟨b1, 0, none⟩ = some (.int .i64 z) := h1.cell 0
  have HC := Lib.hid fun w2 (hb : Below w.heap.size w w2) => (h0.same (hb.block _ h0.lt)).cell 0
  have hsz : ∃ sz : Nat, D.size = (sz : Int) ∧ sz ≤ 256 := ⟨D.size.toNat, by have := hO.ok.2.2.2.1; omega, by have := hO.ok.2.2.2.2.1; omega⟩
  obtain ⟨sz, hsz, hsz2⟩ := hsz
  have HS := Lib.hid fun (w2 : World) (bz bf : Nat) (hb : Below w.heap.size w w2) (k1 : Box w2 bz 3 [.int .i64 z]) (k2 : Box w2 bf 80 [.int .i64 2]) =>
    settle_dev (w := w2) (d := d) (T := T) (D := D) 73 #[.pointer (some ⟨bz, 0, none⟩), .pointer (some ⟨bf, 0, none⟩)] (zstep z 2) (fun w' => (Box w' bz 3 [.int .i64 z] ∧ Box w' bf 80 [.int .i64 2]) ∧ Box w' b0 31 [dp d] ∧ Box w' b1 3 [.int .i64 z]) (fun k => k = bz ∨ k = bf ∨ k = b0 ∨ k = b1)
      (fun k hk => hT k (by have := hb.size; omega)) hO (hI.below hb) ⟨⟨k1, k2⟩, h0.same (hb.block _ h0.lt), h1.same (hb.block _ h1.lt)⟩
      (fun k hk => by
        rcases hk with h | h | h | h
        · exact ⟨_, _, h ▸ k1, by decide, by decide⟩
        · exact ⟨_, _, h ▸ k2, by decide, by decide⟩
        · exact ⟨_, _, h ▸ h0.same (hb.block _ h0.lt), by decide, by decide⟩
        · exact ⟨_, _, h ▸ h1.same (hb.block _ h1.lt), by decide, by decide⟩)
      (fun w' w'' h e => ⟨⟨h.1.1.same (e _ (.inl rfl)), h.1.2.same (e _ (.inr (.inl rfl)))⟩, h.2.1.same (e _ (.inr (.inr (.inl rfl)))), h.2.2.same (e _ (.inr (.inr (.inr rfl))))⟩)
      (goes_in Try.func73 (by kernel_rfl) rfl) (fun c w' hc hi => ofZone1_any c (hO.wok c hc) bz bf z 2 w' hi.1.1 hi.1.2)
  have hu : D.use ≤ 10000000 := hO.use
  clear h0 h1 hI hO
  go_enter Try.func53, Try.ntmps53
  go_wp2_with fail
  apply wp_meetE (fun w5 _ _ => DevIs T w5 d (sortD (zstep z 2) D) ∧ Fr T w w5 ∧ Box w5 b0 31 [dp d] ∧ Box w5 b1 3 [.int .i64 z])
  · go_region_with (first
      | ((with_reducible refine (HZ.out _).mono ?_); rintro e w2 ⟨bz, bf, rfl, k1, k2, hb⟩; have B2 : Below w.heap.size w w2 := bthen (Below.refl _ _).drew hb; have cc : w2.cell? ⟨b0, 0, none⟩ = some (dp d) := HC.out w2 B2)
      | ((with_reducible refine (HS.out _ bz bf B2 k1 k2).mono ?_); rintro e w5 ⟨rfl, hI5, hF5, hI6⟩))
    all_goals exact ⟨w5, bz, bf, ⟨hI5, (Fr.of_below B2).trans hF5, hI6.2.1, hI6.2.2⟩, rfl, rfl⟩
  intro w5 bz bf h5
  obtain ⟨hI5, hF5, x0, x1⟩ := h5
  have c05 : w5.cell? ⟨b0, 0, none⟩ = some (dp d) := x0.cell 0
  have c3 : w5.cell? ⟨d, 3, none⟩ = some (.int .i64 (sz : Int)) := by
    obtain ⟨gz, cz, lb, cv, nb, hD, _⟩ := hI5
    have := hD.geo.2.2.2.1
    rw [this, show (sortD (zstep z 2) D).size = D.size from rfl, hsz]
  have HR : DevIs T w5 d { sortD (zstep z 2) D with last := dropTo (sortD (zstep z 2) D).last z 0 } := by rw [dropTo_zero]; exact hI5
  have H5 := Lib.hid (And.intro HR (And.intro hF5 (And.intro x0 x1)))
  have HSZ := Lib.hid hsz
  clear HR hI5 hF5 x0 x1 c0 c1 HC HS HZ hsz
  go_wp2
  go_loopw [12] (fun i wr => ∃ k : Nat, k ≤ sz ∧ i = .int .i64 k ∧ DevIs T wr d { sortD (zstep z 2) D with last := dropTo (sortD (zstep z 2) D).last z k } ∧ Fr T w wr ∧ Box wr b0 31 [dp d] ∧ Box wr b1 3 [.int .i64 z]) (fun i _ => sz - (intOf i).toNat)
  case atStart => exact ⟨0, by omega, rfl, H5.out.1, H5.out.2⟩
  case round =>
    obtain ⟨k, hk, rfl, hIr, hFr, x0, x1⟩ := hrel
    by_cases hlt : k < sz
    · have hIr0 := hIr
      obtain ⟨gz, cz, lb, cv, nb, hD, hown, hcv, hm, hmn, t⟩ := hIr
      have c05 : wr.cell? ⟨b0, 0, none⟩ = some (dp d) := x0.cell 0
      have c15 : wr.cell? ⟨b1, 0, none⟩ = some (.int .i64 z) := x1.cell 0
      have c6 := hD.mem.2.1
      have hkI : (k : Int) < (sz : Int) := by omega
      have HA := Lib.hid (And.intro hD (And.intro hown (And.intro hcv (And.intro hm (And.intro hmn (And.intro t (And.intro hFr (And.intro x0 x1))))))))
      clear hIr0 hD hown hcv hm hmn t hFr x0 x1 c3
      go_wp2_with fail
      go_still_tail 7, (by kernel_rfl)
      change wpList _ _ _ _ _ wr.drew
      obtain ⟨hD, hown, hcv, hm, hmn, t, hFr, x0, x1⟩ := HA.out
      refine wpList_place_drop _ rfl _ _ _ rfl 42 Try.underlying63 lb _ _ rfl (hm.same rfl) (z, (k : Int)) rfl hz64 (w64 (by omega) (by omega)) ?_
      intro w7 hm7 ht7
      rw [dropTo_succ] at hm7
      have hg7 := ht7.grown
      have e7 : ∀ x, x < wr.heap.size → x ≠ lb → w7.heap[x]? = wr.heap[x]? := fun x hx h1 => hg7.block x hx (fun e => h1 (by injection e))
      have hK : DevIs T w7 d { sortD (zstep z 2) D with last := dropTo (sortD (zstep z 2) D).last z (k + 1) } ∧ Fr T w w7 ∧ Box w7 b0 31 [dp d] ∧ Box w7 b1 3 [.int .i64 z] := by
        refine ⟨⟨gz, cz, lb, cv, nb, hD.same (e7 _ hD.lt (hD.ne_map hm)), own_same hown fun g hg => e7 g (hown.lt g hg).2 (fun h => hm.ne_row hown (h ▸ hg) rfl), own_same hcv fun g hg => e7 g (hcv.lt g hg).2 (fun h => hm.ne_row hcv (h ▸ hg) rfl), hm7, hmn.same (e7 _ hmn.lt (fun h => t.2.2.2.2.2 h.symm)), t⟩, ?_, x0.same (e7 _ x0.lt (x0.ne_map hm)), x1.same (e7 _ x1.lt (x1.ne_map hm))⟩
        exact (hFr.drew).trans (Fr.of_grown hg7 (fun k e => by injection e with e; exact e ▸ t.2.2.1))
      have HK := Lib.hid hK
      clear hK hD hown hcv hm hmn t hFr x0 x1 hm7 ht7 hg7 e7 HA c05 c15 c6
      go_frame
      go_wp2
      go_roundw
      case rel => exact ⟨k + 1, by omega, by go_num, HK.out⟩
      case measure => simp [intOf]; omega
    · obtain rfl : k = sz := by omega
      have HK := Lib.hid (And.intro hIr hFr)
      clear hIr hFr x0 x1
      go_wp2
      go_end0
      have e : resetS D z = { sortD (zstep z 2) D with last := dropTo (sortD (zstep z 2) D).last z k } := by unfold resetS; rw [HSZ.out]; rfl
      rw [e]
      exact ⟨rfl, HK.out⟩
end
end Go.Proofs.Ytkdhibjmfanhcaa

/-
  Package dev: Reset, whole; Read.
-/
namespace Go.Proofs.Ytkdhibjmfanhcaa
open Go.RowKit Geom Zone Dev
set_option linter.unusedVariables false

namespace Dev
def resetD (D : Dv) (z : Int) : Int × Dv :=
  if D.down = true then (2, D)
  else if (turnL (fun _ z => resetZ z) D.conv D.seq D.opn D.L z).2 ≠ 0 then ((turnL (fun _ z => resetZ z) D.conv D.seq D.opn D.L z).2, { D with ill := D.ill + 1 })
  else (0, tick (resetS { D with L := (turnL (fun _ z => resetZ z) D.conv D.seq D.opn D.L z).1 } z))
end Dev
section
variable {w : World} {d : Nat} {T : Nat → Prop} {D : Dv}
set_option maxRecDepth 100000 in
set_option maxHeartbeats 4000000 in
theorem dreset_any (z : Int) (hz64 : W64 z) (hT : ∀ k, w.heap.size ≤ k → T k) (hO : DvOk D) (hI : DevIs T w d D) :
    Calls Try.prog 25 #[dp d, .int .i64 z] w fun x w' => x = .returned (.int .i64 (resetD D z).1) ∧ DevIs T w' d (resetD D z).2 ∧ Fr T w w' := by
  have hn0 : 0 < D.n := by have := hO.ok.1; have := hO.ok.2.1; have := hO.ns; omega
  obtain ⟨w1, hw1⟩ : ∃ w1, w1 = (w.alloc (.cells #[dp d] 31)).alloc (.cells #[.int .i64 z] 3) := ⟨_, rfl⟩
  have hB1 : Below w.heap.size w w1 := by rw [hw1]; exact ((Below.refl _ _).alloc (Nat.le_refl _) _).alloc (by simp) _
  have hz1 : w1.heap.size = w.heap.size + 2 := by rw [hw1]; simp
  have x0 : Box w1 w.heap.size 31 [dp d] := by
    rw [hw1]; exact (Box.new w _ [dp d]).same (Below.heap_alloc _ _ _ (by simp))
  have x1 : Box w1 (w.heap.size + 1) 3 [.int .i64 z] := by
    have := Box.new (w.alloc (.cells #[dp d] 31)) 3 [.int .i64 z]
    rw [show (w.alloc (.cells #[dp d] 31)).heap.size = w.heap.size + 1 by simp] at this
    rw [hw1]
    exact this
  have hI1 := hI.below hB1
  have hdl := hI.lt
  obtain ⟨gz, cz, lb, cv, nb, hD, hown, hcv, hm, hmn, t1, t2, t3, t4, t5⟩ := id hI1
  have hfl := hO.fit.1
  have hns := hO.ns
  have hLl : D.L.length = D.n := by omega
  have HZ := Lib.hid fun w' (hb : Below w1.heap.size w1 w') => zreset_any D.conv D.soft D.seq D.size D.opn z (some ⟨gz, 0, none⟩) D.n cz D.L w' hO.nl hLl hO.ok.some hns (((Rd.own hown).below hb).more hb.size)
  have hSO : ∀ w', Below w1.heap.size w1 w' → w'.cell? ⟨d, 0, none⟩ = some (.int .i64 D.conv) ∧ w'.cell? ⟨d, 1, none⟩ = some (.int .i64 D.soft) ∧ w'.cell? ⟨d, 2, none⟩ = some (.int .i64 D.seq) ∧ w'.cell? ⟨d, 3, none⟩ = some (.int .i64 D.size) ∧ w'.cell? ⟨d, 4, none⟩ = some (.int .i64 D.opn) ∧
      w'.cell? ⟨d, 5, none⟩ = some (.slice (some ⟨gz, 0, none⟩) D.n cz) ∧ w'.cell? ⟨w.heap.size, 0, none⟩ = some (dp d) ∧ w'.cell? ⟨w.heap.size + 1, 0, none⟩ = some (.int .i64 z) := by
    intro w' hb
    have hDw := hD.same (hb.block _ hD.lt)
    obtain ⟨g0, g1, g2, g3, g4⟩ := hDw.geo
    exact ⟨g0, g1, g2, g3, g4, hDw.mem.1, (x0.same (hb.block _ x0.lt)).cell 0, (x1.same (hb.block _ x1.lt)).cell 0⟩
  have SO := Lib.hid hSO
  generalize hrD : resetD D z = r
  have HRD := Lib.hid hrD
  clear hrD
  generalize hR : turnL (fun _ z => resetZ z) D.conv D.seq D.opn D.L z = R at HZ
  obtain ⟨L', e⟩ := R
  have HR := Lib.hid hR
  have HA := Lib.hid (And.intro hI1 (And.intro x0 (And.intro x1 (And.intro hB1 (And.intro hz1 hdl)))))
  clear hI hI1 x0 x1 hB1 hz1 hdl hD hown hcv hm hmn t1 t2 t3 t4 t5 hfl hns hLl hSO hR
  go_enter Try.func25, Try.ntmps25
  go_wp2_with fail
  rw [← hw1]
  clear hw1
  go_region_held3 (fun w' => w'.cell? ⟨d, 0, none⟩ = some (.int .i64 D.conv) ∧ w'.cell? ⟨d, 1, none⟩ = some (.int .i64 D.soft) ∧ w'.cell? ⟨d, 2, none⟩ = some (.int .i64 D.seq) ∧ w'.cell? ⟨d, 3, none⟩ = some (.int .i64 D.size) ∧ w'.cell? ⟨d, 4, none⟩ = some (.int .i64 D.opn) ∧
      w'.cell? ⟨d, 5, none⟩ = some (.slice (some ⟨gz, 0, none⟩) D.n cz) ∧ w'.cell? ⟨w.heap.size, 0, none⟩ = some (dp d) ∧ w'.cell? ⟨w.heap.size + 1, 0, none⟩ = some (.int .i64 z))
    (first | exact SO.out _ (Below.refl _ _).drew | exact SO.out _ B2)
    (((with_reducible refine (HZ.out _ (Below.refl _ _).drew).mono ?_); rintro x w2 ⟨g2, c2, rfl, hown2, hb2⟩; have B2 : Below w1.heap.size w1 w2 := bthen (Below.refl _ _).drew hb2))
  obtain ⟨hI1, x0, x1, hB1, hz1, hdl⟩ := HA.out
  have hown2' := own_base0 hown2 (Nat.zero_le _)
  have hI2 := hI1.below B2
  have hF2 : Fr T w w2 := (Fr.of_below hB1).trans (Fr.of_below B2)
  have c0 : w2.cell? ⟨w.heap.size, 0, none⟩ = some (dp d) := (x0.same (B2.block _ x0.lt)).cell 0
  by_cases hd : D.down = true
  · have HC := Lib.hid (command_down (.slice (some ⟨g2, 0, none⟩) D.n c2) e (.func (.func 53) #[] #[.pointer (some ⟨w.heap.size, 0, none⟩), .pointer (some ⟨w.heap.size + 1, 0, none⟩)]) hI2 hd)
    have H2 := Lib.hid (And.intro hI2 (And.intro hF2 hd))
    clear hI2 hF2 hd hI1 x0 x1 hB1 hz1 hdl hb2 B2 hown2
    go_wp2_with fail
    refine HC.out.mono ?_
    rintro x w3 ⟨rfl, rfl⟩
    go_wp2
    go_ret
    have e1 : r = (2, D) := by rw [← HRD.out]; exact if_pos H2.out.2.2
    rw [e1]
    exact ⟨rfl, H2.out.1, H2.out.2.1⟩
  · have hd' : D.down = false := by simpa using hd
    by_cases he : e = 0
    · subst he
      have hg2 := own_at hown2 hn0
      have hg2' : w1.heap.size ≤ g2 := by
        obtain ⟨g', e', l1, l2⟩ := hg2
        injection e' with e'
        injection e' with e'
        have : w1.drew.heap.size = w1.heap.size := rfl
        omega
      obtain ⟨gz2, cz2, lb2, cv2, nb2, hD2, hownz, hcv2, hm2, hmn2, t1, t2, t3, t4, t5, t6⟩ := id hI2
      have e3 : ∀ x, x ≠ d → (w2.setCell ⟨d, 5, none⟩ (.slice (some ⟨g2, 0, none⟩) D.n c2)).heap[x]? = w2.heap[x]? := fun x hx => heap_setCell_other _ _ _ _ hx
      have hz3 : (w2.setCell ⟨d, 5, none⟩ (.slice (some ⟨g2, 0, none⟩) D.n c2)).heap.size = w2.heap.size := by simp [World.setCell]
      have hcv3 : (w2.setCell ⟨d, 5, none⟩ (.slice (some ⟨g2, 0, none⟩) D.n c2)).ownsRow 0 79 66 cv2 D.cache.length (wcs D.cache) := own_same hcv2 fun g hg => e3 g (fun h => hD2.ne_row hcv2 hg (by decide) h.symm)
      have hm3 : MapIs (w2.setCell ⟨d, 5, none⟩ (.slice (some ⟨g2, 0, none⟩) D.n c2)) lb2 D.use D.last := hm2.same (e3 _ (fun h => hD2.ne_map hm2 h.symm))
      have hmn3 : MapIs (w2.setCell ⟨d, 5, none⟩ (.slice (some ⟨g2, 0, none⟩) D.n c2)) nb2 D.cache.length (newestV D.cache) := hmn2.same (e3 _ (fun h => hD2.ne_map hmn2 h.symm))
      have hs2 := B2.size
      have hn2 := own_at hown2 hn0
      have hDL : DevIs T (w2.setCell ⟨d, 5, none⟩ (.slice (some ⟨g2, 0, none⟩) D.n c2)) d { D with L := L' } :=
        ⟨g2, c2, lb2, cv2, nb2, hD2.set5 _, own_same hown2' fun g hg => e3 g (by injection hg with hg; have hg : g2 = g := hg; omega), hcv3, hm3, hmn3, t1, hT _ (by omega), t3, t4, t5, t6⟩
      have hF := reset1_any (w := w2.setCell ⟨d, 5, none⟩ (.slice (some ⟨g2, 0, none⟩) D.n c2)) (T := T) (D := { D with L := L' }) w.heap.size (w.heap.size + 1) z hz64 (fun k hk => hT k (by omega)) (hO.withL (by have := fit_reset (conv := D.conv) (soft := D.soft) (seq := D.seq) (size := D.size) (opn := D.opn) (zone := z) hO.ok.2.2.2.1 hO.fit; rwa [HR.out] at this)) hDL
        ((x0.same (B2.block _ x0.lt)).same (e3 _ (by omega))) ((x1.same (B2.block _ x1.lt)).same (e3 _ (by omega)))
      have HC := Lib.hid (command_ok g2 D.n c2 53 #[.pointer (some ⟨w.heap.size, 0, none⟩), .pointer (some ⟨w.heap.size + 1, 0, none⟩)] (resetS { D with L := L' } z) hO hI2 hd' hd' hO.arm0 hO.arm1
        (goes_in Try.func53 (by kernel_rfl) rfl) hF)
      have H2 := Lib.hid (And.intro hF2 hd)
      clear hI2 hF2 hd hd' hI1 x0 x1 hB1 hz1 hdl hb2 B2 hown2 hown2' hg2 hg2' hD2 hownz hcv2 hm2 hmn2 t1 t2 t3 t4 t5 t6 e3 hz3 hcv3 hm3 hmn3 hs2 hF hn2 hDL
      go_wp2_with fail
      refine HC.out.mono ?_
      rintro x w3 ⟨rfl, hI3, hF3⟩
      have H3 := Lib.hid (And.intro hI3 hF3)
      clear hI3 hF3
      go_wp2
      go_ret
      have e1 : r = (0, tick (resetS { D with L := L' } z)) := by rw [← HRD.out]; unfold resetD; rw [HR.out]; exact (if_neg H2.out.2).trans (if_neg (fun h => h rfl))
      rw [e1]
      exact ⟨rfl, H3.out.1, H2.out.1.trans H3.out.2⟩
    · have HC := Lib.hid (command_no (.slice (some ⟨g2, 0, none⟩) D.n c2) e (.func (.func 53) #[] #[.pointer (some ⟨w.heap.size, 0, none⟩), .pointer (some ⟨w.heap.size + 1, 0, none⟩)]) he hO hI2 hd')
      have H2 := Lib.hid (And.intro hF2 (And.intro hd he))
      clear hI2 hF2 hd he hd' hI1 x0 x1 hB1 hz1 hdl hb2 B2 hown2
      go_wp2_with fail
      refine HC.out.mono ?_
      rintro x w3 ⟨rfl, hI3, hF3⟩
      have H3 := Lib.hid (And.intro hI3 hF3)
      clear hI3 hF3
      go_wp2
      go_ret
      have e1 : r = (e, { D with ill := D.ill + 1 }) := by rw [← HRD.out]; unfold resetD; rw [HR.out]; exact (if_neg H2.out.2.1).trans (if_pos H2.out.2.2)
      rw [e1]
      exact ⟨rfl, H3.out.1, H2.out.1.trans H3.out.2⟩
end
end Go.Proofs.Ytkdhibjmfanhcaa

/-
  Package dev: Reset, whole; Read.
-/
import Derived.Test.YtdacdnpghngiiaaDevT
namespace Go.Proofs.Ytdacdnpghngiiaa
open Go.RowKit Geom Zone Dev
set_option linter.unusedVariables false

namespace Dev
def resetD (D : Dv) (z : Int) : Int × Dv :=
  if D.down = true then (2, D)
  else if (turnL (fun _ z => resetZ z) D.conv D.seq D.opn D.L z).2 ≠ 0 then ((turnL (fun _ z => resetZ z) D.conv D.seq D.opn D.L z).2, { D with ill := D.ill + 1 })
  else (0, tick (resetS { D with L := (turnL (fun _ z => resetZ z) D.conv D.seq D.opn D.L z).1 } z))
end Dev
section
variable {w : World} {d : Nat} {T : Nat → Prop} {D : Dv}
set_option maxRecDepth 100000 in
set_option maxHeartbeats 4000000 in
theorem dreset_any (z : Int) (hz64 : W64 z) (hT : ∀ k, w.heap.size ≤ k → T k) (hO : DvOk D) (hI : DevIs T w d D) :
    Calls Try.prog 26 #[dp d, .int .i64 z] w fun x w' => x = .returned (.int .i64 (resetD D z).1) ∧ DevIs T w' d (resetD D z).2 ∧ Fr T w w' := by
  have hn0 : 0 < D.n := by have := hO.ok.1; have := hO.ok.2.1; have := hO.ns; omega
  obtain ⟨w1, hw1⟩ : ∃ w1, w1 = (w.alloc (.cells #[dp d] 32)).alloc (.cells #[.int .i64 z] 3) := ⟨_, rfl⟩
  have hB1 : Below w.heap.size w w1 := by rw [hw1]; exact ((Below.refl _ _).alloc (Nat.le_refl _) _).alloc (by simp) _
  have hz1 : w1.heap.size = w.heap.size + 2 := by rw [hw1]; simp
  have x0 : Box w1 w.heap.size 32 [dp d] := by
    rw [hw1]; exact (Box.new w _ [dp d]).same (Below.heap_alloc _ _ _ (by simp))
  have x1 : Box w1 (w.heap.size + 1) 3 [.int .i64 z] := by
    have := Box.new (w.alloc (.cells #[dp d] 32)) 3 [.int .i64 z]
    rw [show (w.alloc (.cells #[dp d] 32)).heap.size = w.heap.size + 1 by simp] at this
    rw [hw1]
    exact this
  have hI1 := hI.below hB1
  have hdl := hI.lt
  obtain ⟨gz, cz, lb, cv, nb, hD, hown, hcv, hm, hmn, t1, t2, t3, t4, t5⟩ := id hI1
  have hfl := hO.fit.1
  have hns := hO.ns
  have hLl : D.L.length = D.n := by omega
  have HZ := Lib.hid fun w' (hb : Below w1.heap.size w1 w') => zreset_any D.conv D.soft D.seq D.size D.opn z (some ⟨gz, 0, none⟩) D.n cz D.L w' hO.nl hLl hO.ok.some hns (((Rd.own hown).below hb).more hb.size)
  have hSO : ∀ w', Below w1.heap.size w1 w' → w'.cell? ⟨d, 0, none⟩ = some (.int .i64 D.conv) ∧ w'.cell? ⟨d, 1, none⟩ = some (.int .i64 D.soft) ∧ w'.cell? ⟨d, 2, none⟩ = some (.int .i64 D.seq) ∧ w'.cell? ⟨d, 3, none⟩ = some (.int .i64 D.size) ∧ w'.cell? ⟨d, 4, none⟩ = some (.int .i64 D.opn) ∧
      w'.cell? ⟨d, 5, none⟩ = some (.slice (some ⟨gz, 0, none⟩) D.n cz) ∧ w'.cell? ⟨w.heap.size, 0, none⟩ = some (dp d) ∧ w'.cell? ⟨w.heap.size + 1, 0, none⟩ = some (.int .i64 z) := by
    intro w' hb
    have hDw := hD.same (hb.block _ hD.lt)
    obtain ⟨g0, g1, g2, g3, g4⟩ := hDw.geo
    exact ⟨g0, g1, g2, g3, g4, hDw.mem.1, (x0.same (hb.block _ x0.lt)).cell 0, (x1.same (hb.block _ x1.lt)).cell 0⟩
  have SO := Lib.hid hSO
  generalize hrD : resetD D z = r
  have HRD := Lib.hid hrD
  clear hrD
  generalize hR : turnL (fun _ z => resetZ z) D.conv D.seq D.opn D.L z = R at HZ
  obtain ⟨L', e⟩ := R
  have HR := Lib.hid hR
  have HA := Lib.hid (And.intro hI1 (And.intro x0 (And.intro x1 (And.intro hB1 (And.intro hz1 hdl)))))
  clear hI hI1 x0 x1 hB1 hz1 hdl hD hown hcv hm hmn t1 t2 t3 t4 t5 hfl hns hLl hSO hR
  go_enter Try.func26, Try.ntmps26
  go_wp2_with fail
  rw [← hw1]
  clear hw1
  go_region_held3 (fun w' => w'.cell? ⟨d, 0, none⟩ = some (.int .i64 D.conv) ∧ w'.cell? ⟨d, 1, none⟩ = some (.int .i64 D.soft) ∧ w'.cell? ⟨d, 2, none⟩ = some (.int .i64 D.seq) ∧ w'.cell? ⟨d, 3, none⟩ = some (.int .i64 D.size) ∧ w'.cell? ⟨d, 4, none⟩ = some (.int .i64 D.opn) ∧
      w'.cell? ⟨d, 5, none⟩ = some (.slice (some ⟨gz, 0, none⟩) D.n cz) ∧ w'.cell? ⟨w.heap.size, 0, none⟩ = some (dp d) ∧ w'.cell? ⟨w.heap.size + 1, 0, none⟩ = some (.int .i64 z))
    (first | exact SO.out _ (Below.refl _ _).drew | exact SO.out _ B2)
    (((with_reducible refine (HZ.out _ (Below.refl _ _).drew).mono ?_); rintro x w2 ⟨g2, c2, rfl, hown2, hb2⟩; have B2 : Below w1.heap.size w1 w2 := bthen (Below.refl _ _).drew hb2))
  obtain ⟨hI1, x0, x1, hB1, hz1, hdl⟩ := HA.out
  have hown2' := own_base0 hown2 (Nat.zero_le _)
  have hI2 := hI1.below B2
  have hF2 : Fr T w w2 := (Fr.of_below hB1).trans (Fr.of_below B2)
  have c0 : w2.cell? ⟨w.heap.size, 0, none⟩ = some (dp d) := (x0.same (B2.block _ x0.lt)).cell 0
  by_cases hd : D.down = true
  · have HC := Lib.hid (command_down (.slice (some ⟨g2, 0, none⟩) D.n c2) e (.func (.func 58) #[] #[.pointer (some ⟨w.heap.size, 0, none⟩), .pointer (some ⟨w.heap.size + 1, 0, none⟩)]) hI2 hd)
    have H2 := Lib.hid (And.intro hI2 (And.intro hF2 hd))
    clear hI2 hF2 hd hI1 x0 x1 hB1 hz1 hdl hb2 B2 hown2
    go_wp2_with fail
    refine HC.out.mono ?_
    rintro x w3 ⟨rfl, rfl⟩
    go_wp2
    go_ret
    have e1 : r = (2, D) := by rw [← HRD.out]; exact if_pos H2.out.2.2
    rw [e1]
    exact ⟨rfl, H2.out.1, H2.out.2.1⟩
  · have hd' : D.down = false := by simpa using hd
    by_cases he : e = 0
    · subst he
      have hg2 := own_at hown2 hn0
      have hg2' : w1.heap.size ≤ g2 := by
        obtain ⟨g', e', l1, l2⟩ := hg2
        injection e' with e'
        injection e' with e'
        have : w1.drew.heap.size = w1.heap.size := rfl
        omega
      obtain ⟨gz2, cz2, lb2, cv2, nb2, hD2, hownz, hcv2, hm2, hmn2, t1, t2, t3, t4, t5, t6⟩ := id hI2
      have e3 : ∀ x, x ≠ d → (w2.setCell ⟨d, 5, none⟩ (.slice (some ⟨g2, 0, none⟩) D.n c2)).heap[x]? = w2.heap[x]? := fun x hx => heap_setCell_other _ _ _ _ hx
      have hz3 : (w2.setCell ⟨d, 5, none⟩ (.slice (some ⟨g2, 0, none⟩) D.n c2)).heap.size = w2.heap.size := by simp [World.setCell]
      have hcv3 : (w2.setCell ⟨d, 5, none⟩ (.slice (some ⟨g2, 0, none⟩) D.n c2)).ownsRow 0 75 66 cv2 D.cache.length (wcs D.cache) := own_same hcv2 fun g hg => e3 g (fun h => hD2.ne_row hcv2 hg (by decide) h.symm)
      have hm3 : MapIs (w2.setCell ⟨d, 5, none⟩ (.slice (some ⟨g2, 0, none⟩) D.n c2)) lb2 D.use D.last := hm2.same (e3 _ (fun h => hD2.ne_map hm2 h.symm))
      have hmn3 : MapIs (w2.setCell ⟨d, 5, none⟩ (.slice (some ⟨g2, 0, none⟩) D.n c2)) nb2 D.cache.length (newestV D.cache) := hmn2.same (e3 _ (fun h => hD2.ne_map hmn2 h.symm))
      have hs2 := B2.size
      have hn2 := own_at hown2 hn0
      have hDL : DevIs T (w2.setCell ⟨d, 5, none⟩ (.slice (some ⟨g2, 0, none⟩) D.n c2)) d { D with L := L' } :=
        ⟨g2, c2, lb2, cv2, nb2, hD2.set5 _, own_same hown2' fun g hg => e3 g (by injection hg with hg; have hg : g2 = g := hg; omega), hcv3, hm3, hmn3, t1, hT _ (by omega), t3, t4, t5, t6⟩
      have hF := reset1_any (w := w2.setCell ⟨d, 5, none⟩ (.slice (some ⟨g2, 0, none⟩) D.n c2)) (T := T) (D := { D with L := L' }) w.heap.size (w.heap.size + 1) z hz64 (fun k hk => hT k (by omega)) (hO.withL (by have := fit_reset (conv := D.conv) (soft := D.soft) (seq := D.seq) (size := D.size) (opn := D.opn) (zone := z) hO.ok.2.2.2.1 hO.fit; rwa [HR.out] at this)) hDL
        ((x0.same (B2.block _ x0.lt)).same (e3 _ (by omega))) ((x1.same (B2.block _ x1.lt)).same (e3 _ (by omega)))
      have HC := Lib.hid (command_ok g2 D.n c2 58 #[.pointer (some ⟨w.heap.size, 0, none⟩), .pointer (some ⟨w.heap.size + 1, 0, none⟩)] (resetS { D with L := L' } z) hO hI2 hd' hd' hO.arm0 hO.arm1
        (goes_in Try.func58 (by kernel_rfl) rfl) hF)
      have H2 := Lib.hid (And.intro hF2 hd)
      clear hI2 hF2 hd hd' hI1 x0 x1 hB1 hz1 hdl hb2 B2 hown2 hown2' hg2 hg2' hD2 hownz hcv2 hm2 hmn2 t1 t2 t3 t4 t5 t6 e3 hz3 hcv3 hm3 hmn3 hs2 hF hn2 hDL
      go_wp2_with fail
      refine HC.out.mono ?_
      rintro x w3 ⟨rfl, hI3, hF3⟩
      have H3 := Lib.hid (And.intro hI3 hF3)
      clear hI3 hF3
      go_wp2
      go_ret
      have e1 : r = (0, tick (resetS { D with L := L' } z)) := by rw [← HRD.out]; unfold resetD; rw [HR.out]; exact (if_neg H2.out.2).trans (if_neg (fun h => h rfl))
      rw [e1]
      exact ⟨rfl, H3.out.1, H2.out.1.trans H3.out.2⟩
    · have HC := Lib.hid (command_no (.slice (some ⟨g2, 0, none⟩) D.n c2) e (.func (.func 58) #[] #[.pointer (some ⟨w.heap.size, 0, none⟩), .pointer (some ⟨w.heap.size + 1, 0, none⟩)]) he hO hI2 hd')
      have H2 := Lib.hid (And.intro hF2 (And.intro hd he))
      clear hI2 hF2 hd he hd' hI1 x0 x1 hB1 hz1 hdl hb2 B2 hown2
      go_wp2_with fail
      refine HC.out.mono ?_
      rintro x w3 ⟨rfl, hI3, hF3⟩
      have H3 := Lib.hid (And.intro hI3 hF3)
      clear hI3 hF3
      go_wp2
      go_ret
      have e1 : r = (e, { D with ill := D.ill + 1 }) := by rw [← HRD.out]; unfold resetD; rw [HR.out]; exact (if_neg H2.out.2.1).trans (if_pos H2.out.2.2)
      rw [e1]
      exact ⟨rfl, H3.out.1, H2.out.1.trans H3.out.2⟩
end
end Go.Proofs.Ytdacdnpghngiiaa

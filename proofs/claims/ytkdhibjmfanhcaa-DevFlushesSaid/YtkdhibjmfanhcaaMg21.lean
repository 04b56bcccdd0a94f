/-
  DevQ DevR
-/
import Derived.Test.YtkdhibjmfanhcaaMg20
/-
  Package dev: settle, of a device; Flush; the closure of one zone.
-/
namespace Go.Proofs.Ytkdhibjmfanhcaa
open Go.RowKit Geom Zone Dev
set_option linter.unusedVariables false

/-- where all orders of a region come to one end, but for the world that a call has left -/
def MeetW (A : World → Act) (W : World → World) (R : World → Prop) : Exit → Act → World → Prop
  | .normal, a, w => ∃ w5, R w5 ∧ a = A w5 ∧ w = W w5
  | _, _, _ => False
theorem wp_meetW {P : Program} {c : Code} {Q : Exit → Act → World → Prop} {a : Act} {w : World} {A : World → Act} {W : World → World} (R : World → Prop) (h : c.wp P (MeetW A W R) a w) (h2 : ∀ w5, R w5 → Q .normal (A w5) (W w5)) : c.wp P Q a w :=
  Code.wp_mono (fun e a' w' hm => by
    cases e <;> first | exact (hm : False).elim | (obtain ⟨w5, hr, rfl, rfl⟩ := (hm : ∃ w5, R w5 ∧ a' = A w5 ∧ w' = W w5); exact h2 w5 hr)) h

namespace Dev
/-- what stays, and what lasts, where each sector's fate hangs on it alone -/
def sortD (step : Wr → Int) (D : Dv) : Dv :=
  { D with cache := (stl (fun (_ : Unit) c => (step c, ())) D.cache ((), [], D.last)).2.1, last := (stl (fun (_ : Unit) c => (step c, ())) D.cache ((), [], D.last)).2.2, use := D.use + D.cache.length }
def flushD (D : Dv) : Int × Dv := if D.down = true then (2, D) else (0, tick (sortD (fun _ => 1) D))
end Dev
section
variable {w : World} {d : Nat} {T : Nat → Prop} {D : Dv}
theorem Box.ne_map {b m n : Nat} {t : TypeId} {cs : List Value} {f : Int × Int → Option Value} (h : Box w b t cs) (hm : MapIs w m n f) : b ≠ m := by
  rintro rfl
  obtain ⟨es, clock, h2⟩ := hm.is_map
  unfold Box at h
  rw [h2] at h
  cases h
theorem settle_dev (F : FuncId) (cap2 : Array Value) (step : Wr → Int) (Inv : World → Prop) (J : Nat → Prop) (hT : ∀ k, w.heap.size ≤ k → T k) (hO : DvOk D) (hI : DevIs T w d D) (hInv : Inv w)
    (hJ : ∀ k, J k → ∃ t cs, Box w k t cs ∧ t ≠ 67 ∧ t ≠ 79) (hJI : ∀ w' w'', Inv w' → (∀ k, J k → w''.heap[k]? = w'.heap[k]?) → Inv w'')
    (hE : ∀ (args : Array Value) (w' : World), (callFunc F args).run Try.prog w' = .ok (.enter F args) w')
    (hF : ∀ (c : Wr) (w' : World), c ∈ D.cache → Inv w' → Calls Try.prog F (#[.agg (wc c).toArray] ++ cap2) w' fun e w'' => e = .returned (.int .i64 (step c)) ∧ Below w'.heap.size w' w'') :
    Calls Try.prog 34 #[dp d, .func (.func F) #[] cap2] w fun x w' => x = .returned (.tuple #[]) ∧ DevIs T w' d (sortD step D) ∧ Fr T w w' ∧ Inv w' := by
  obtain ⟨gz, cz, lb, cv, nb, hD, hown, hcv, hm, hmn, t1, t2, t3, t4, t5, t6⟩ := hI
  have hjl : ∀ k, (J k ∨ k = gz) → k < w.heap.size ∧ k ≠ d ∧ k ≠ lb ∧ cv.ownBlock ≠ some k := by
    rintro k (hk | rfl)
    · obtain ⟨t, cs, hb, n1, n2⟩ := hJ k hk
      have hDB : Box w d 67 (dcs D.conv D.soft D.seq D.size D.opn (.slice (some ⟨gz, 0, none⟩) D.n cz) lb cv nb D.down D.armed D.ill).toList := hD
      exact ⟨hb.lt, hb.ne hDB n1, hb.ne_map hm, fun h => hb.ne_row hcv h n2 rfl⟩
    · refine ⟨(hown.lt k rfl).2, fun e => hD.ne_row hown rfl (by decide) e.symm, fun e => hm.ne_row hown rfl e.symm, fun h => ?_⟩
      obtain ⟨_, c1, e1⟩ := own_type hcv h
      obtain ⟨_, c2, e2⟩ := own_type hown rfl
      rw [e1] at e2
      injection e2 with e2
      injection e2 with _ e2
      exact absurd e2 (by decide)
  have hS := settle_any (w := w) (d := d) F cap2 (fun (_ : Unit) c => (step c, ())) (fun _ w' => Inv w' ∧ w'.heap[gz]? = w.heap[gz]?) (fun k => J k ∨ k = gz) (fun _ => False) () D.cache D.use 0 D.last hO.wok (fun c hc => (hO.place64 hc).1) hO.cl hO.use hD hcv hm ⟨hInv, rfl⟩ hjl (fun k hk => hk.elim)
    (fun _ w' w'' h e => ⟨hJI w' w'' h.1 (fun k hk => e k (.inl hk)), (e gz (.inr rfl)).trans h.2⟩) hE
    (fun _ c w' cv' nb' hc hi hDw hsz => (hF c w' hc hi.1).mono fun e w'' ⟨he, hb⟩ => ⟨he, ⟨hJI w' w'' hi.1 fun k hk => hb.block k (by have := (hjl k (.inl hk)).1; omega), (hb.block gz (by have := (hown.lt gz rfl).2; omega)).trans hi.2⟩, Fr.of_below hb⟩)
  refine hS.mono ?_
  rintro e w' ⟨rfl, cv', nb', k1, k2, k3, k4, k5, k6, k7, k8, k9, k10⟩
  refine ⟨rfl, ⟨gz, cz, lb, cv', nb', k1, own_same hown fun g hg => ?_, k2, k6, k5, t1, t2, t3, hT _ k4, (fun g hg => hT _ (k3 g hg)), (by have := hm.lt; omega)⟩, k8.mono fun k _ h => ?_, k7.1⟩
  · injection hg with hg
    have hg : gz = g := hg
    exact hg ▸ k7.2
  · rcases h with h | h | h
    · exact h ▸ t1
    · exact h ▸ t3
    · exact h.elim

/-- the closure of Flush -/
theorem flush11_any (c : Wr) (w : World) : Calls Try.prog 35 (#[.agg (wc c).toArray] ++ #[]) w fun e w' => e = .returned (.int .i64 1) ∧ Below w.heap.size w w' := by
  go_enter Try.func35, Try.ntmps35
  go_wp2
  go_ret
  exact ⟨rfl, (Below.refl _ _).alloc (Nat.le_refl _) _⟩
theorem flush1_any (b : Nat) (hT : ∀ k, w.heap.size ≤ k → T k) (hO : DvOk D) (hI : DevIs T w d D) (hb : Box w b 31 [dp d]) :
    Calls Try.prog 33 #[.pointer (some ⟨b, 0, none⟩)] w fun x w' => x = .returned (.tuple #[]) ∧ DevIs T w' d (sortD (fun _ => 1) D) ∧ Fr T w w' := by
  have HS := Lib.hid (settle_dev (w := w) 35 #[] (fun _ => 1) (fun _ => True) (fun _ => False) hT hO hI trivial (fun k hk => hk.elim) (fun _ _ _ _ => trivial) (goes_in Try.func35 (by kernel_rfl) rfl) (fun c w' _ _ => flush11_any c w'))
  have c0 : w.cell? ⟨b, 0, none⟩ = some (dp d) := hb.cell 0
  clear hI hb hO
  go_enter Try.func33, Try.ntmps33
  go_wp2_with fail
  refine HS.out.mono ?_
  rintro x w' ⟨rfl, h1, h2, _⟩
  have H := Lib.hid (And.intro h1 h2)
  clear h1 h2
  go_wp2
  go_end0
  exact ⟨rfl, H.out⟩

theorem DevIs.set5_self (h : DevIs T w d D) : ∃ gz cz, w.cell? ⟨d, 5, none⟩ = some (.slice (some ⟨gz, 0, none⟩) D.n cz) ∧ w.frozen? ⟨d, 5, none⟩ = false ∧ DevIs T (w.setCell ⟨d, 5, none⟩ (.slice (some ⟨gz, 0, none⟩) D.n cz)) d D := by
  obtain ⟨gz, cz, lb, cv, nb, hD, hown, hcv, hm, hmn, t⟩ := h
  have e : ∀ x, x ≠ d → (w.setCell ⟨d, 5, none⟩ (.slice (some ⟨gz, 0, none⟩) D.n cz)).heap[x]? = w.heap[x]? := fun x hx => heap_setCell_other _ _ _ _ hx
  exact ⟨gz, cz, hD.mem.1, hD.frozen 5, gz, cz, lb, cv, nb, hD.set5 _, own_same hown fun g hg => e g (fun h => hD.ne_row hown hg (by decide) h.symm), own_same hcv fun g hg => e g (fun h => hD.ne_row hcv hg (by decide) h.symm), hm.same (e _ (fun h => hD.ne_map hm h.symm)), hmn.same (e _ (fun h => hD.ne_map hmn h.symm)), t⟩
set_option maxRecDepth 100000 in
set_option maxHeartbeats 1000000 in
theorem flush_any (hT : ∀ k, w.heap.size ≤ k → T k) (hO : DvOk D) (hI : DevIs T w d D) :
    Calls Try.prog 11 #[dp d] w fun x w' => x = .returned (.int .i64 (flushD D).1) ∧ DevIs T w' d (flushD D).2 ∧ Fr T w w' := by
  obtain ⟨w1, hw1⟩ : ∃ w1, w1 = w.alloc (.cells #[dp d] 31) := ⟨_, rfl⟩
  have hB1 : Below w.heap.size w w1 := by rw [hw1]; exact (Below.refl _ _).alloc (Nat.le_refl _) _
  have x0 : Box w1 w.heap.size 31 [dp d] := by rw [hw1]; exact Box.new w _ [dp d]
  have hI1 := hI.below hB1
  have hdl := hI.lt
  have hz1 := hB1.size
  obtain ⟨gz, cz, c5, f5, hI5⟩ := hI1.set5_self
  have c0 : w1.cell? ⟨w.heap.size, 0, none⟩ = some (dp d) := x0.cell 0
  generalize hr : flushD D = r
  have hC : Calls Try.prog 32 #[dp d, .slice (some ⟨gz, 0, none⟩) D.n cz, .int .i64 0, .func (.func 33) #[] #[.pointer (some ⟨w.heap.size, 0, none⟩)]] w1.drew fun x w' => x = .returned (.int .i64 r.1) ∧ DevIs T w' d r.2 ∧ Fr T w1 w' := by
    by_cases hd : D.down = true
    · rw [← hr, show flushD D = (2, D) from if_pos hd]
      exact (command_down (w := w1.drew) (T := T) (D := D) _ _ _ hI1 hd).mono fun e w' ⟨h1, h2⟩ => ⟨h1, h2 ▸ hI1, h2 ▸ (Fr.refl w1).drew⟩
    · have hd' : D.down = false := by simpa using hd
      rw [← hr, show flushD D = (0, tick (sortD (fun _ => 1) D)) from if_neg hd]
      refine (command_ok (w := w1.drew) (T := T) gz D.n cz 33 #[.pointer (some ⟨w.heap.size, 0, none⟩)] (sortD (fun _ => 1) D) hO hI1 hd' hd' hO.arm0 hO.arm1 (goes_in Try.func33 (by kernel_rfl) rfl)
        (flush1_any (w := w1.drew.setCell ⟨d, 5, none⟩ (.slice (some ⟨gz, 0, none⟩) D.n cz)) (T := T) (D := D) w.heap.size (fun k hk => hT k ?_) hO hI5 (x0.same (heap_setCell_other _ _ _ _ (show w.heap.size ≠ d by omega))))).mono fun e w' ⟨h1, h2, h3⟩ => ⟨h1, h2, (Fr.refl w1).drew.trans h3⟩
      have : (w1.drew.setCell ⟨d, 5, none⟩ (.slice (some ⟨gz, 0, none⟩) D.n cz)).heap.size = w1.heap.size := by simp [World.setCell]
      omega
  have HC := Lib.hid hC
  have HF := Lib.hid (Fr.of_below (T := T) hB1)
  clear hC hI hI1 hI5 x0 hB1 hdl hz1 hr f5
  go_enter Try.func11, Try.ntmps11
  go_wp2_with fail
  rw [← hw1]
  clear hw1
  apply wp_meetW (fun w5 => DevIs T w5 d r.2 ∧ Fr T w1 w5)
  · go_region_with ((with_reducible refine HC.out.mono ?_); rintro e w5 ⟨rfl, hI5, hF5⟩)
    all_goals exact ⟨w5, ⟨hI5, hF5⟩, rfl, rfl⟩
  intro w5 h5
  have H5 := Lib.hid h5
  clear h5
  go_wp2
  go_ret
  exact ⟨rfl, H5.out.1, HF.out.trans H5.out.2⟩
end
end Go.Proofs.Ytkdhibjmfanhcaa

/-
  Package dev: the closure of one zone; Finish.
-/
namespace Go.Proofs.Ytkdhibjmfanhcaa
open Go.RowKit Geom Zone Dev
set_option linter.unusedVariables false

namespace Dev
def zstep (z f : Int) (c : Wr) : Int := if c.1 = z then f else 0
end Dev
section
variable {w : World} {d : Nat} {T : Nat → Prop} {D : Dv}
set_option maxRecDepth 100000 in
theorem ofZone1_any (c : Wr) (hc : c.2.2.length = 64) (bz bf : Nat) (z f : Int) (w : World) (hz : Box w bz 3 [.int .i64 z]) (hf : Box w bf 80 [.int .i64 f]) :
    Calls Try.prog 73 (#[.agg (wc c).toArray] ++ #[.pointer (some ⟨bz, 0, none⟩), .pointer (some ⟨bf, 0, none⟩)]) w fun e w' => e = .returned (.int .i64 (zstep z f c)) ∧ Below w.heap.size w w' := by
  have hB : Below w.heap.size w (w.alloc (.cells (wc c).toArray 79)) := (Below.refl _ _).alloc (Nat.le_refl _) _
  have q0 : (w.alloc (.cells (wc c).toArray 79)).cell? ⟨w.heap.size, 0, none⟩ = some (.int .i64 c.1) := box_cells w _ _ 0 _ rfl
  have cz : (w.alloc (.cells (wc c).toArray 79)).cell? ⟨bz, 0, none⟩ = some (.int .i64 z) := (hz.same (hB.block _ hz.lt)).cell 0
  have cf : (w.alloc (.cells (wc c).toArray 79)).cell? ⟨bf, 0, none⟩ = some (.int .i64 f) := (hf.same (hB.block _ hf.lt)).cell 0
  have h00 : (wc c)[0]? = some (.int .i64 c.1) := rfl
  have HB := Lib.hid hB
  generalize hr : zstep z f c = r
  have hlen : (wc c).length = 66 := wc_length hc
  have hg0 : (wc c)[0]'(by omega) = .int .i64 c.1 := rfl
  clear hB hz hf
  by_cases h : c.1 = z
  · have hr' : r = f := by rw [← hr]; exact if_pos h
    subst hr'
    have hq : (c.1 == z) = true := by simpa using h
    have HH := Lib.hid hr
    clear hr h
    go_enter Try.func73, Try.ntmps73
    go_wp2
    go_ret
    exact ⟨rfl, HB.out⟩
  · have hr' : r = 0 := by rw [← hr]; exact if_neg h
    subst hr'
    have hq : (c.1 == z) = false := by simpa using h
    have HH := Lib.hid hr
    clear hr h
    go_enter Try.func73, Try.ntmps73
    go_wp2
    go_ret
    exact ⟨rfl, HB.out⟩
theorem ofZone_any (z f : Int) (w : World) : Calls Try.prog 54 #[.int .i64 z, .int .i64 f] w fun e w' =>
    ∃ bz bf, e = .returned (.func (.func 73) #[] #[.pointer (some ⟨bz, 0, none⟩), .pointer (some ⟨bf, 0, none⟩)]) ∧ Box w' bz 3 [.int .i64 z] ∧ Box w' bf 80 [.int .i64 f] ∧ Below w.heap.size w w' := by
  have h1 : Box ((w.alloc (.cells #[.int .i64 z] 3)).alloc (.cells #[.int .i64 f] 80)) w.heap.size 3 [.int .i64 z] := (Box.new w _ [.int .i64 z]).same (Below.heap_alloc _ _ _ (by simp))
  have h2 : Box ((w.alloc (.cells #[.int .i64 z] 3)).alloc (.cells #[.int .i64 f] 80)) (w.heap.size + 1) 80 [.int .i64 f] := by
    have := Box.new (w.alloc (.cells #[.int .i64 z] 3)) 80 [.int .i64 f]
    rwa [show (w.alloc (.cells #[.int .i64 z] 3)).heap.size = w.heap.size + 1 by simp] at this
  have h3 : Below w.heap.size w ((w.alloc (.cells #[.int .i64 z] 3)).alloc (.cells #[.int .i64 f] 80)) := ((Below.refl _ _).alloc (Nat.le_refl _) _).alloc (by simp) _
  have H := Lib.hid (And.intro h1 (And.intro h2 h3))
  clear h1 h2 h3
  go_enter Try.func54, Try.ntmps54
  go_wp2
  go_ret
  exact ⟨_, _, rfl, H.out.1, H.out.2.1, H.out.2.2⟩
set_option maxRecDepth 100000 in
set_option maxHeartbeats 1000000 in
theorem finish1_any (b0 b1 : Nat) (z : Int) (hT : ∀ k, w.heap.size ≤ k → T k) (hO : DvOk D) (hI : DevIs T w d D) (h0 : Box w b0 31 [dp d]) (h1 : Box w b1 3 [.int .i64 z]) :
    Calls Try.prog 56 #[.pointer (some ⟨b0, 0, none⟩), .pointer (some ⟨b1, 0, none⟩)] w fun x w' => x = .returned (.tuple #[]) ∧ DevIs T w' d (sortD (zstep z 1) D) ∧ Fr T w w' := by
  have HZ := Lib.hid fun w' => ofZone_any z 1 w'
  have c0 : w.cell? ⟨b0, 0, none⟩ = some (dp d) := h0.cell 0
  have c1 : w.cell? ⟨b1, 0, none⟩ = some (.int .i64 z) := h1.cell 0
  have HC := Lib.hid fun w2 (hb : Below w.heap.size w w2) => (h0.same (hb.block _ h0.lt)).cell 0
  have HS := Lib.hid fun (w2 : World) (bz bf : Nat) (hb : Below w.heap.size w w2) (k1 : Box w2 bz 3 [.int .i64 z]) (k2 : Box w2 bf 80 [.int .i64 1]) =>
    settle_dev (w := w2) (d := d) (T := T) (D := D) 73 #[.pointer (some ⟨bz, 0, none⟩), .pointer (some ⟨bf, 0, none⟩)] (zstep z 1) (fun w' => Box w' bz 3 [.int .i64 z] ∧ Box w' bf 80 [.int .i64 1]) (fun k => k = bz ∨ k = bf)
      (fun k hk => hT k (by have := hb.size; omega)) hO (hI.below hb) ⟨k1, k2⟩ (fun k hk => hk.elim (fun h => ⟨_, _, h ▸ k1, by decide, by decide⟩) (fun h => ⟨_, _, h ▸ k2, by decide, by decide⟩)) (fun w' w'' h e => ⟨h.1.same (e _ (.inl rfl)), h.2.same (e _ (.inr rfl))⟩)
      (goes_in Try.func73 (by kernel_rfl) rfl) (fun c w' hc hi => ofZone1_any c (hO.wok c hc) bz bf z 1 w' hi.1 hi.2)
  clear h0 h1 hI hO hT
  go_enter Try.func56, Try.ntmps56
  go_wp2_with fail
  apply wp_meetE (fun w5 _ _ => DevIs T w5 d (sortD (zstep z 1) D) ∧ Fr T w w5)
  · go_region_with (first
      | ((with_reducible refine (HZ.out _).mono ?_); rintro e w2 ⟨bz, bf, rfl, k1, k2, hb⟩; have B2 : Below w.heap.size w w2 := bthen (Below.refl _ _).drew hb; have cc : w2.cell? ⟨b0, 0, none⟩ = some (dp d) := HC.out w2 B2)
      | ((with_reducible refine (HS.out _ bz bf B2 k1 k2).mono ?_); rintro e w5 ⟨rfl, hI5, hF5, _⟩))
    all_goals exact ⟨w5, bz, bf, ⟨hI5, (Fr.of_below B2).trans hF5⟩, rfl, rfl⟩
  intro w5 bz bf h5
  have H5 := Lib.hid h5
  clear h5
  go_wp2
  go_end0
  exact ⟨rfl, H5.out.1, H5.out.2⟩
end
end Go.Proofs.Ytkdhibjmfanhcaa

/-
  Package dev: settle, of a device; Flush; the closure of one zone.
-/
import Derived.Test.YtdacdnpghngiiaaDevP
namespace Go.Proofs.Ytdacdnpghngiiaa
open Go.RowKit Geom Zone Dev
set_option linter.unusedVariables false

/-- where all orders of a region come to one end, but for the world that a call has left -/
def MeetW (A : World → Act) (W : World → World) (R : World → Prop) : Exit → Act → World → Prop
  | .normal, a, w => ∃ w5, R w5 ∧ a = A w5 ∧ w = W w5
  | _, _, _ => False
theorem wp_meetW {P : Program} {c : Code} {Q : Exit → Act → World → Prop} {a : Act} {w : World} {A : World → Act} {W : World → World} (R : World → Prop) (h : c.wp P (MeetW A W R) a w) (h2 : ∀ w5, R w5 → Q .normal (A w5) (W w5)) : c.wp P Q a w :=
  Code.wp_mono (fun e a' w' hm => by
    cases e <;> first | exact (hm : False).elim | (obtain ⟨w5, hr, rfl, rfl⟩ := (hm : ∃ w5, R w5 ∧ a' = A w5 ∧ w' = W w5); exact h2 w5 hr)) h

namespace Dev
/-- what stays, and what lasts, where each sector's fate hangs on it alone -/
def sortD (step : Wr → Int) (D : Dv) : Dv :=
  { D with cache := (stl (fun (_ : Unit) c => (step c, ())) D.cache ((), [], D.last)).2.1, last := (stl (fun (_ : Unit) c => (step c, ())) D.cache ((), [], D.last)).2.2, use := D.use + D.cache.length }
def flushD (D : Dv) : Int × Dv := if D.down = true then (2, D) else (0, tick (sortD (fun _ => 1) D))
end Dev
section
variable {w : World} {d : Nat} {T : Nat → Prop} {D : Dv}
theorem Box.ne_map {b m n : Nat} {t : TypeId} {cs : List Value} {f : Int × Int → Option Value} (h : Box w b t cs) (hm : MapIs w m n f) : b ≠ m := by
  rintro rfl
  obtain ⟨es, clock, h2⟩ := hm.is_map
  unfold Box at h
  rw [h2] at h
  cases h
theorem settle_dev (F : FuncId) (cap2 : Array Value) (step : Wr → Int) (Inv : World → Prop) (J : Nat → Prop) (hT : ∀ k, w.heap.size ≤ k → T k) (hO : DvOk D) (hI : DevIs T w d D) (hInv : Inv w)
    (hJ : ∀ k, J k → ∃ t cs, Box w k t cs ∧ t ≠ 70 ∧ t ≠ 75) (hJI : ∀ w' w'', Inv w' → (∀ k, J k → w''.heap[k]? = w'.heap[k]?) → Inv w'')
    (hE : ∀ (args : Array Value) (w' : World), (callFunc F args).run Try.prog w' = .ok (.enter F args) w')
    (hF : ∀ (c : Wr) (w' : World), c ∈ D.cache → Inv w' → Calls Try.prog F (#[.agg (wc c).toArray] ++ cap2) w' fun e w'' => e = .returned (.int .i64 (step c)) ∧ Below w'.heap.size w' w'') :
    Calls Try.prog 30 #[dp d, .func (.func F) #[] cap2] w fun x w' => x = .returned (.tuple #[]) ∧ DevIs T w' d (sortD step D) ∧ Fr T w w' ∧ Inv w' := by
  obtain ⟨gz, cz, lb, cv, nb, hD, hown, hcv, hm, hmn, t1, t2, t3, t4, t5, t6⟩ := hI
  have hjl : ∀ k, (J k ∨ k = gz) → k < w.heap.size ∧ k ≠ d ∧ k ≠ lb ∧ cv.ownBlock ≠ some k := by
    rintro k (hk | rfl)
    · obtain ⟨t, cs, hb, n1, n2⟩ := hJ k hk
      have hDB : Box w d 70 (dcs D.conv D.soft D.seq D.size D.opn (.slice (some ⟨gz, 0, none⟩) D.n cz) lb cv nb D.down D.armed D.ill).toList := hD
      exact ⟨hb.lt, hb.ne hDB n1, hb.ne_map hm, fun h => hb.ne_row hcv h n2 rfl⟩
    · refine ⟨(hown.lt k rfl).2, fun e => hD.ne_row hown rfl (by decide) e.symm, fun e => hm.ne_row hown rfl e.symm, fun h => ?_⟩
      obtain ⟨_, c1, e1⟩ := own_type hcv h
      obtain ⟨_, c2, e2⟩ := own_type hown rfl
      rw [e1] at e2
      injection e2 with e2
      injection e2 with _ e2
      exact absurd e2 (by decide)
  have hS := settle_any (w := w) (d := d) F cap2 (fun (_ : Unit) c => (step c, ())) (fun _ w' => Inv w' ∧ w'.heap[gz]? = w.heap[gz]?) (fun k => J k ∨ k = gz) (fun _ => False) () D.cache D.use 0 D.last hO.wok (fun c hc => (hO.place64 hc).1) hO.cl hO.use hD hcv hm ⟨hInv, rfl⟩ hjl (fun k hk => hk.elim)
    (fun _ w' w'' h e => ⟨hJI w' w'' h.1 (fun k hk => e k (.inl hk)), (e gz (.inr rfl)).trans h.2⟩) hE
    (fun _ c w' cv' nb' hc hi hDw hsz => (hF c w' hc hi.1).mono fun e w'' ⟨he, hb⟩ => ⟨he, ⟨hJI w' w'' hi.1 fun k hk => hb.block k (by have := (hjl k (.inl hk)).1; omega), (hb.block gz (by have := (hown.lt gz rfl).2; omega)).trans hi.2⟩, Fr.of_below hb⟩)
  refine hS.mono ?_
  rintro e w' ⟨rfl, cv', nb', k1, k2, k3, k4, k5, k6, k7, k8, k9, k10⟩
  refine ⟨rfl, ⟨gz, cz, lb, cv', nb', k1, own_same hown fun g hg => ?_, k2, k6, k5, t1, t2, t3, hT _ k4, (fun g hg => hT _ (k3 g hg)), (by have := hm.lt; omega)⟩, k8.mono fun k _ h => ?_, k7.1⟩
  · injection hg with hg
    have hg : gz = g := hg
    exact hg ▸ k7.2
  · rcases h with h | h | h
    · exact h ▸ t1
    · exact h ▸ t3
    · exact h.elim

/-- the closure of Flush -/
theorem flush11_any (c : Wr) (w : World) : Calls Try.prog 31 (#[.agg (wc c).toArray] ++ #[]) w fun e w' => e = .returned (.int .i64 1) ∧ Below w.heap.size w w' := by
  go_enter Try.func31, Try.ntmps31
  go_wp2
  go_ret
  exact ⟨rfl, (Below.refl _ _).alloc (Nat.le_refl _) _⟩
theorem flush1_any (b : Nat) (hT : ∀ k, w.heap.size ≤ k → T k) (hO : DvOk D) (hI : DevIs T w d D) (hb : Box w b 32 [dp d]) :
    Calls Try.prog 29 #[.pointer (some ⟨b, 0, none⟩)] w fun x w' => x = .returned (.tuple #[]) ∧ DevIs T w' d (sortD (fun _ => 1) D) ∧ Fr T w w' := by
  have HS := Lib.hid (settle_dev (w := w) 31 #[] (fun _ => 1) (fun _ => True) (fun _ => False) hT hO hI trivial (fun k hk => hk.elim) (fun _ _ _ _ => trivial) (goes_in Try.func31 (by kernel_rfl) rfl) (fun c w' _ _ => flush11_any c w'))
  have c0 : w.cell? ⟨b, 0, none⟩ = some (dp d) := hb.cell 0
  clear hI hb hO
  go_enter Try.func29, Try.ntmps29
  go_wp2_with fail
  refine HS.out.mono ?_
  rintro x w' ⟨rfl, h1, h2, _⟩
  have H := Lib.hid (And.intro h1 h2)
  clear h1 h2
  go_wp2
  go_end0
  exact ⟨rfl, H.out⟩

theorem DevIs.set5_self (h : DevIs T w d D) : ∃ gz cz, w.cell? ⟨d, 5, none⟩ = some (.slice (some ⟨gz, 0, none⟩) D.n cz) ∧ w.frozen? ⟨d, 5, none⟩ = false ∧ DevIs T (w.setCell ⟨d, 5, none⟩ (.slice (some ⟨gz, 0, none⟩) D.n cz)) d D := by
  obtain ⟨gz, cz, lb, cv, nb, hD, hown, hcv, hm, hmn, t⟩ := h
  have e : ∀ x, x ≠ d → (w.setCell ⟨d, 5, none⟩ (.slice (some ⟨gz, 0, none⟩) D.n cz)).heap[x]? = w.heap[x]? := fun x hx => heap_setCell_other _ _ _ _ hx
  exact ⟨gz, cz, hD.mem.1, hD.frozen 5, gz, cz, lb, cv, nb, hD.set5 _, own_same hown fun g hg => e g (fun h => hD.ne_row hown hg (by decide) h.symm), own_same hcv fun g hg => e g (fun h => hD.ne_row hcv hg (by decide) h.symm), hm.same (e _ (fun h => hD.ne_map hm h.symm)), hmn.same (e _ (fun h => hD.ne_map hmn h.symm)), t⟩
set_option maxRecDepth 100000 in
set_option maxHeartbeats 1000000 in
theorem flush_any (hT : ∀ k, w.heap.size ≤ k → T k) (hO : DvOk D) (hI : DevIs T w d D) :
    Calls Try.prog 10 #[dp d] w fun x w' => x = .returned (.int .i64 (flushD D).1) ∧ DevIs T w' d (flushD D).2 ∧ Fr T w w' := by
  obtain ⟨w1, hw1⟩ : ∃ w1, w1 = w.alloc (.cells #[dp d] 32) := ⟨_, rfl⟩
  have hB1 : Below w.heap.size w w1 := by rw [hw1]; exact (Below.refl _ _).alloc (Nat.le_refl _) _
  have x0 : Box w1 w.heap.size 32 [dp d] := by rw [hw1]; exact Box.new w _ [dp d]
  have hI1 := hI.below hB1
  have hdl := hI.lt
  have hz1 := hB1.size
  obtain ⟨gz, cz, c5, f5, hI5⟩ := hI1.set5_self
  have c0 : w1.cell? ⟨w.heap.size, 0, none⟩ = some (dp d) := x0.cell 0
  generalize hr : flushD D = r
  have hC : Calls Try.prog 28 #[dp d, .slice (some ⟨gz, 0, none⟩) D.n cz, .int .i64 0, .func (.func 29) #[] #[.pointer (some ⟨w.heap.size, 0, none⟩)]] w1.drew fun x w' => x = .returned (.int .i64 r.1) ∧ DevIs T w' d r.2 ∧ Fr T w1 w' := by
    by_cases hd : D.down = true
    · rw [← hr, show flushD D = (2, D) from if_pos hd]
      exact (command_down (w := w1.drew) (T := T) (D := D) _ _ _ hI1 hd).mono fun e w' ⟨h1, h2⟩ => ⟨h1, h2 ▸ hI1, h2 ▸ (Fr.refl w1).drew⟩
    · have hd' : D.down = false := by simpa using hd
      rw [← hr, show flushD D = (0, tick (sortD (fun _ => 1) D)) from if_neg hd]
      refine (command_ok (w := w1.drew) (T := T) gz D.n cz 29 #[.pointer (some ⟨w.heap.size, 0, none⟩)] (sortD (fun _ => 1) D) hO hI1 hd' hd' hO.arm0 hO.arm1 (goes_in Try.func29 (by kernel_rfl) rfl)
        (flush1_any (w := w1.drew.setCell ⟨d, 5, none⟩ (.slice (some ⟨gz, 0, none⟩) D.n cz)) (T := T) (D := D) w.heap.size (fun k hk => hT k ?_) hO hI5 (x0.same (heap_setCell_other _ _ _ _ (show w.heap.size ≠ d by omega))))).mono fun e w' ⟨h1, h2, h3⟩ => ⟨h1, h2, (Fr.refl w1).drew.trans h3⟩
      have : (w1.drew.setCell ⟨d, 5, none⟩ (.slice (some ⟨gz, 0, none⟩) D.n cz)).heap.size = w1.heap.size := by simp [World.setCell]
      omega
  have HC := Lib.hid hC
  have HF := Lib.hid (Fr.of_below (T := T) hB1)
  clear hC hI hI1 hI5 x0 hB1 hdl hz1 hr f5
  go_enter Try.func10, Try.ntmps10
  go_wp2_with fail
  rw [← hw1]
  clear hw1
  apply wp_meetW (fun w5 => DevIs T w5 d r.2 ∧ Fr T w1 w5)
  · go_region_with ((with_reducible refine HC.out.mono ?_); rintro e w5 ⟨rfl, hI5, hF5⟩)
    all_goals exact ⟨w5, ⟨hI5, hF5⟩, rfl, rfl⟩
  intro w5 h5
  have H5 := Lib.hid h5
  clear h5
  go_wp2
  go_ret
  exact ⟨rfl, H5.out.1, HF.out.trans H5.out.2⟩
end
end Go.Proofs.Ytdacdnpghngiiaa

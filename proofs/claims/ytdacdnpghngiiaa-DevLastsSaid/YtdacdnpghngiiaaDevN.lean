/-
  Package dev: command; Write, Flush, Reset, Finish.
-/
import Derived.Test.YtdacdnpghngiiaaDevL
namespace Go.Proofs.Ytdacdnpghngiiaa
open Go.RowKit Geom Zone Dev
set_option linter.unusedVariables false

namespace Dev
/-- one more command is done -/
def tick (D : Dv) : Dv := if 0 < D.armed then { D with armed := D.armed - 1, down := D.armed - 1 == 0 } else D
end Dev

section
variable {w : World} {d : Nat} {T : Nat → Prop} {D : Dv}
theorem DevIs.set9_10 (h : DevIs T w d D) (b : Bool) (a : Int) : DevIs T ((w.setCell ⟨d, 10, none⟩ (.int .i64 a)).setCell ⟨d, 9, none⟩ (.bool b)) d { D with armed := a, down := b } := by
  obtain ⟨gz, cz, lb, cv, nb, hD, hown, hcv, hm, hmn, t1, t2, t3, t4, t5⟩ := h
  have e : ∀ x, x ≠ d → ((w.setCell ⟨d, 10, none⟩ (.int .i64 a)).setCell ⟨d, 9, none⟩ (.bool b)).heap[x]? = w.heap[x]? := fun x hx => (heap_setCell_other _ _ _ _ hx).trans (heap_setCell_other _ _ _ _ hx)
  exact ⟨gz, cz, lb, cv, nb, (hD.set10 a).set9 b, own_same hown fun g hg => e g (fun h => hD.ne_row hown hg (by decide) h.symm), own_same hcv fun g hg => e g (fun h => hD.ne_row hcv hg (by decide) h.symm), hm.same (e _ (fun h => hD.ne_map hm h.symm)), hmn.same (e _ (fun h => hD.ne_map hmn h.symm)), t1, t2, t3, t4, t5⟩
theorem DevIs.set11 (h : DevIs T w d D) (a : Int) : DevIs T (w.setCell ⟨d, 11, none⟩ (.int .i64 a)) d { D with ill := a } := by
  obtain ⟨gz, cz, lb, cv, nb, hD, hown, hcv, hm, hmn, t1, t2, t3, t4, t5⟩ := h
  have e : ∀ x, x ≠ d → (w.setCell ⟨d, 11, none⟩ (.int .i64 a)).heap[x]? = w.heap[x]? := fun x hx => heap_setCell_other _ _ _ _ hx
  exact ⟨gz, cz, lb, cv, nb, hD.set11 a, own_same hown fun g hg => e g (fun h => hD.ne_row hown hg (by decide) h.symm), own_same hcv fun g hg => e g (fun h => hD.ne_row hcv hg (by decide) h.symm), hm.same (e _ (fun h => hD.ne_map hm h.symm)), hmn.same (e _ (fun h => hD.ne_map hmn h.symm)), t1, t2, t3, t4, t5⟩
theorem DevIs.at (h : DevIs T w d D) : T d := by obtain ⟨gz, cz, lb, cv, nb, hD, hown, hcv, hm, hmn, t1, _⟩ := h; exact t1
theorem DevIs.lt (h : DevIs T w d D) : d < w.heap.size := by obtain ⟨gz, cz, lb, cv, nb, hD, _⟩ := h; exact hD.lt

set_option maxRecDepth 100000 in
theorem command_down (l : Value) (e : Int) (f : Value) (hI : DevIs T w d D) (hd : D.down = true) :
    Calls Try.prog 28 #[dp d, l, .int .i64 e, f] w fun x w' => x = .returned (.int .i64 2) ∧ w = w' := by
  obtain ⟨gz, cz, lb, cv, nb, hD, _⟩ := hI
  rw [hd] at hD
  have HR := Lib.hid (refusal_down e hD)
  go_enter Try.func28, Try.ntmps28
  go_wp2_with fail
  refine HR.out.mono ?_
  rintro x w1 ⟨rfl, rfl⟩
  go_wp2
  go_ret
  exact ⟨rfl, rfl⟩
set_option maxRecDepth 100000 in
theorem command_no (l : Value) (e : Int) (f : Value) (he : e ≠ 0) (hO : DvOk D) (hI : DevIs T w d D) (hd : D.down = false) :
    Calls Try.prog 28 #[dp d, l, .int .i64 e, f] w fun x w' => x = .returned (.int .i64 e) ∧ DevIs T w' d { D with ill := D.ill + 1 } ∧ Fr T w w' := by
  have hI0 := hI
  obtain ⟨gz, cz, lb, cv, nb, hD, _⟩ := hI
  rw [hd] at hD
  have HR := Lib.hid (refusal_no e he hO.ill0 hO.ill1 hD)
  have HI := Lib.hid hI0
  have hq : (e != 0) = true := by simpa using he
  clear hD hI0 he
  go_enter Try.func28, Try.ntmps28
  go_wp2_with fail
  refine HR.out.mono ?_
  rintro x w1 ⟨rfl, rfl⟩
  go_wp2
  go_ret
  exact ⟨rfl, HI.out.set11 _, Fr.of_setCell _ _ _ HI.out.at⟩
set_option maxRecDepth 100000 in
set_option maxHeartbeats 1000000 in
theorem command_ok (g n c : Nat) (F : FuncId) (cap2 : Array Value) (D' : Dv) (hO : DvOk D) (hI : DevIs T w d D) (hd : D.down = false) (hd' : D'.down = false) (ha : 0 ≤ D'.armed) (ha1 : D'.armed ≤ 9223372036854775807)
    (hE : ∀ (args : Array Value) (w' : World), (callFunc F args).run Try.prog w' = .ok (.enter F args) w')
    (hF : Calls Try.prog F cap2 (w.setCell ⟨d, 5, none⟩ (.slice (some ⟨g, 0, none⟩) n c)) fun x w' => x = .returned (.tuple #[]) ∧ DevIs T w' d D' ∧ Fr T (w.setCell ⟨d, 5, none⟩ (.slice (some ⟨g, 0, none⟩) n c)) w') :
    Calls Try.prog 28 #[dp d, .slice (some ⟨g, 0, none⟩) n c, .int .i64 0, .func (.func F) #[] cap2] w fun x w' => x = .returned (.int .i64 0) ∧ DevIs T w' d (tick D') ∧ Fr T w w' := by
  have hI0 := hI
  obtain ⟨gz, cz, lb, cv, nb, hD, _⟩ := hI
  have c5 := hD.mem.1
  have f5 := hD.frozen 5
  rw [hd] at hD
  have HR := Lib.hid (refusal_ok hD)
  have HI := Lib.hid hI0
  have HF := Lib.hid hF
  clear hD hI0 hF
  go_enter Try.func28, Try.ntmps28
  go_wp2_with fail
  refine HR.out.mono ?_
  rintro x w1 ⟨rfl, rfl⟩
  go_wp2_with fail
  refine HF.out.mono ?_
  rintro x w2 ⟨rfl, hI2, hF2⟩
  have hF3 : Fr T w w2 := (Fr.of_setCell w ⟨d, 5, none⟩ (.slice (some ⟨g, 0, none⟩) n c) HI.out.at).trans hF2
  obtain ⟨gz2, cz2, lb2, cv2, nb2, hD2, _⟩ := id hI2
  obtain ⟨c9, c10, c11⟩ := hD2.num
  have f9 := hD2.frozen 9
  have f10 := hD2.frozen 10
  have H2 := Lib.hid (And.intro hI2 hF3)
  clear hI2 hF3 hF2 hD2
  by_cases h0 : 0 < D'.armed
  · have ht : decide (0 < D'.armed) = true := decide_eq_true h0
    have HT := Lib.hid (show tick D' = { D' with armed := D'.armed - 1, down := D'.armed - 1 == 0 } from if_pos h0)
    generalize hA : D'.armed = a at c10 ht ha ha1 h0 HT
    have HA := Lib.hid hA
    clear hA
    go_wp2
    go_ret
    rw [HT.out]
    exact ⟨rfl, H2.out.1.set9_10 _ _, (H2.out.2.setCell _ _ HI.out.at).setCell _ _ HI.out.at⟩
  · have ht : decide (0 < D'.armed) = false := decide_eq_false h0
    have HT := Lib.hid (show tick D' = D' from if_neg h0)
    clear h0 ha ha1
    go_wp2
    go_ret
    rw [HT.out]
    exact ⟨rfl, H2.out.1, H2.out.2⟩
end
end Go.Proofs.Ytdacdnpghngiiaa

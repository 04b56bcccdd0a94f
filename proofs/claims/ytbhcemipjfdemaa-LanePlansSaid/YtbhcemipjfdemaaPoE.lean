/-
  Package pool: Free; the room of a head; a copy; Reset.
-/
import Derived.Test.YtbhcemipjfdemaaPoD
namespace Go.Proofs.Ytbhcemipjfdemaa
open Go.RowKit Geom Leaf Pol
set_option linter.unusedVariables false

theorem pgoes_in {P : Program} {f : FuncId} {fn : Func} {c : Code} (hf : P.funcs[f]? = some fn) (hname : (fn.name == "runtime.NumGoroutine") = false) (hb : fn.body = some c) (args : Array Value) (w : World) : (callFunc f args).run P w = .ok (.enter f args) w := by
  have h1 : fn.name ≠ "runtime.NumGoroutine" := by simpa using hname
  simp [callFunc, hf, h1, hb, mark]

theorem pfree1_any (b : Nat) (A : Option Addr) (n cap : Nat) (h0 h1 h2 z : Int) (w : World) (hL : LiesP w b A n cap h0 h1 h2) :
    Calls Try.prog 38 #[.int .i64 z, .pointer (some ⟨b, 0, none⟩)] w fun e w' => e = .returned (.bool (isH h0 h1 h2 z)) ∧ Below w.heap.size w w' := by
  obtain ⟨a0, a1, a2, a3, al⟩ := hL
  go_enter Try.func38, Try.ntmps38
  go_wp2_with fail
  refine (pishead_any A n cap h0 h1 h2 z w).mono ?_
  rintro e w1 ⟨rfl, hb⟩
  go_wp2
  go_ret
  exact ⟨rfl, hb⟩

section
variable (conv soft seq size opn : Int) (A : Option Addr) (n cap : Nat) (ps : List Int) (h0 h1 h2 : Int)
set_option maxRecDepth 100000 in
theorem pfree_any (w : World) (hm : n ≤ 64) (hn : ps.length = n) (S : Some conv seq size) (hr : Rd w w.heap.size A (is ps)) :
    Calls Try.prog 25 #[pgv conv soft seq size opn, ppv A n cap h0 h1 h2] w fun e w' =>
      ∃ v, e = .returned v ∧ w'.ownsRow w.heap.size 3 1 v (freeX conv ps h0 h1 h2 n).length (is (freeX conv ps h0 h1 h2 n)) ∧ Below w.heap.size w w' := by
  have H0 := Lib.hid (GP.new w conv soft seq size opn A n cap h0 h1 h2 23 27)
  have HW := Lib.hid fun w' (h : GP w w' conv soft seq size opn A n cap h0 h1 h2) => pwith_any conv soft seq size opn A n cap ps h0 h1 h2 0 w' hm hn S (hr.gp h)
  have hE : ∀ (args : Array Value) (w' : World), (callFunc 38 args).run Try.prog w' = .ok (.enter 38 args) w' := fun args w' => pgoes_in Try.func38 (by kernel_rfl) rfl args w'
  have HE := Lib.hid hE
  have HM := Lib.hid (Nat.le_trans (zones_le conv ps 0 n) hm)
  clear hn hr S hm hE
  go_enter Try.func25, Try.ntmps25
  go_wp2_with fail
  generalize World.alloc _ _ = w0 at H0 ⊢
  obtain ⟨c0, c1, c2, c3, c4, cl⟩ := id H0.out.1
  obtain ⟨a0, a1, a2, a3, al⟩ := id H0.out.2.1
  go_wp2_with fail
  refine (HW.out _ H0.out).mono ?_
  rintro e w1 ⟨v, rfl, hown, hb⟩
  have H1 := Lib.hid (GP.below H0.out hb)
  have HO := Lib.hid hown
  have HB := Lib.hid hb.size
  clear c0 c1 c2 c3 c4 cl a0 a1 a2 a3 al HW hown hb
  have HD := Lib.hid (sdelete_any 38 #[.pointer (some ⟨w.heap.size + 1, 0, none⟩)] (isH h0 h1 h2) v _ w0.heap.size _ w1 HM.out rfl HB.out HO.out HE.out fun z w' hw => pfree1_any (w.heap.size + 1) A n cap h0 h1 h2 z w' (by
    have h1 : w.heap.size + 1 < w0.heap.size := H0.out.2.1.2.2.2.2
    obtain ⟨a0, a1, a2, a3, al⟩ := H1.out.2.1
    exact ⟨(hw.cell (p := ⟨w.heap.size + 1, 0, none⟩) h1).trans a0, (hw.cell (p := ⟨w.heap.size + 1, 1, none⟩) h1).trans a1, (hw.cell (p := ⟨w.heap.size + 1, 2, none⟩) h1).trans a2, (hw.cell (p := ⟨w.heap.size + 1, 3, none⟩) h1).trans a3, Nat.lt_of_lt_of_le h1 (Nat.le_trans HB.out hw.size)⟩))
  go_wp2_with fail
  refine HD.out.mono ?_
  rintro e w2 ⟨v2, rfl, hown2, hb2⟩
  have HO2 := Lib.hid (And.intro (own_base0 hown2 H0.out.2.2.size) (H1.out.2.2.trans (hb2.mono H0.out.2.2.size)))
  clear hown2 hb2 HD
  go_wp2
  go_ret
  exact ⟨v2, rfl, HO2.out⟩
end
end Go.Proofs.Ytbhcemipjfdemaa

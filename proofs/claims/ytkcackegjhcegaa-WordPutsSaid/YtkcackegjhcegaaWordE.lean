/-
  'awake' answers true, whatever the world.
-/
import Derived.Test.YtkcackegjhcegaaWordD
namespace Go.Proofs.Ytkcackegjhcegaa
open Go.RowKit Word

theorem awake_any (w : World) :
    Calls Try.prog 9 #[] w fun e w' => e = .returned (.bool true) ∧ Below w.heap.size w w' := by
  have hmk : ∀ w : World, (Instr.makeSlice 22 (.int .i64 3) (.int .i64 3)).run Try.prog w = .ok (.slice (some ⟨w.heap.size, 0, none⟩) 3 3) (w.alloc (.cells #[.int .u8 0, .int .u8 0, .int .u8 0] 5)) := fun _ => by kernel_rfl
  have hown : (w.alloc (.cells #[.int .u8 0, .int .u8 0, .int .u8 0] 5)).ownsRow w.heap.size 5 1 (.slice (some ⟨w.heap.size, 0, none⟩) 3 3) 3 (bs [0, 0, 0]) := World.ownsRow_lit w _ 3 (Nat.le_refl _) (by decide) rfl
  have H1 := Lib.hid (put_yes w.heap.size w.heap.size 3 3 1 2 258 _ (by decide) (by omega) (by omega) (by omega) [0, 0, 0] hown)
  clear hown
  go_enter Try.func9, Try.ntmps9
  go_wp2_with fail
  refine H1.out.mono ?_
  rintro e w1 ⟨rfl, hown, hg⟩
  have e1 : put [0, 0, 0] 1 2 258 = [0, 2, 1] := by decide
  rw [e1] at hown
  have hb1 : Below w.heap.size w w1 := ((Below.refl _ _).alloc (Nat.le_refl _) _).grown hg (by simp) (fun k hk => by injection hk; omega)
  have H2 := Lib.hid (get_yes (some ⟨w.heap.size, 0, none⟩) 3 3 1 2 w1 (by decide) (by omega) (by omega) (by omega) [0, 2, 1] (by simp [octets]) rfl w1.heap.size (Rd.own hown))
  have H3 := Lib.hid (get_no (some ⟨w.heap.size, 0, none⟩) 3 3 2 2 w1 (by decide) (by omega))
  have c0 : w1.cell? ⟨w.heap.size, 0, none⟩ = some (.int .u8 0) := hown.cellAt 0 (by omega)
  have c1 : w1.cell? ⟨w.heap.size, 1, none⟩ = some (.int .u8 2) := hown.cellAt 1 (by omega)
  have c2 : w1.cell? ⟨w.heap.size, 2, none⟩ = some (.int .u8 1) := hown.cellAt 2 (by omega)
  have H4 := Lib.hid (cut_any 258 1)
  clear hown e1 H1
  go_wp2_with fail
  refine H2.out.mono ?_
  rintro e w2 ⟨rfl, rfl⟩
  rw [show Word.get [0, 2, 1] 1 2 = 258 from by decide]
  go_wp2_with fail
  refine H3.out.mono ?_
  rintro e w2 ⟨rfl, rfl⟩
  go_wp2_with fail
  refine (H4.out _ (by omega)).mono ?_
  rintro e w2 ⟨rfl, rfl⟩
  rw [show cut 258 1 = 2 from by decide]
  go_wp2
  go_ret
  exact ⟨rfl, hb1⟩
theorem wf_u8 {l : List Int} (h : ∀ y ∈ l, (Lit.int .u8 y).wf = true) : octets l := fun y hy => by
  have := h y hy
  simpa [Lit.wf, IntKind.min, IntKind.max, IntKind.signed, IntKind.bits] using this
theorem wf_byte {x : Int} (h : (Lit.int .u8 x).wf = true) : 0 ≤ x ∧ x ≤ 255 := by
  simpa [Lit.wf, IntKind.min, IntKind.max, IntKind.signed, IntKind.bits] using h
theorem wf_u64 {x : Int} (h : (Lit.int .u64 x).wf = true) : 0 ≤ x ∧ x < 18446744073709551616 := by
  simp [Lit.wf, IntKind.min, IntKind.max, IntKind.signed, IntKind.bits] at h
  omega

end Go.Proofs.Ytkcackegjhcegaa

/-
  Package dev: the closure of one zone; Finish.
-/
import Derived.Test.YtdacdnpghngiiaaDevQ
namespace Go.Proofs.Ytdacdnpghngiiaa
open Go.RowKit Geom Zone Dev
set_option linter.unusedVariables false

namespace Dev
def zstep (z f : Int) (c : Wr) : Int := if c.1 = z then f else 0
end Dev
section
variable {w : World} {d : Nat} {T : Nat → Prop} {D : Dv}
set_option maxRecDepth 100000 in
theorem ofZone1_any (c : Wr) (hc : c.2.2.length = 64) (bz bf : Nat) (z f : Int) (w : World) (hz : Box w bz 3 [.int .i64 z]) (hf : Box w bf 76 [.int .i64 f]) :
    Calls Try.prog 79 (#[.agg (wc c).toArray] ++ #[.pointer (some ⟨bz, 0, none⟩), .pointer (some ⟨bf, 0, none⟩)]) w fun e w' => e = .returned (.int .i64 (zstep z f c)) ∧ Below w.heap.size w w' := by
  have hB : Below w.heap.size w (w.alloc (.cells (wc c).toArray 75)) := (Below.refl _ _).alloc (Nat.le_refl _) _
  have q0 : (w.alloc (.cells (wc c).toArray 75)).cell? ⟨w.heap.size, 0, none⟩ = some (.int .i64 c.1) := box_cells w _ _ 0 _ rfl
  have cz : (w.alloc (.cells (wc c).toArray 75)).cell? ⟨bz, 0, none⟩ = some (.int .i64 z) := (hz.same (hB.block _ hz.lt)).cell 0
  have cf : (w.alloc (.cells (wc c).toArray 75)).cell? ⟨bf, 0, none⟩ = some (.int .i64 f) := (hf.same (hB.block _ hf.lt)).cell 0
  have h00 : (wc c)[0]? = some (.int .i64 c.1) := rfl
  have HB := Lib.hid hB
  generalize hr : zstep z f c = r
  have hlen : (wc c).length = 66 := wc_length hc
  have hg0 : (wc c)[0]'(by omega) = .int .i64 c.1 := rfl
  clear hB hz hf
  by_cases h : c.1 = z
  · have hr' : r = f := by rw [← hr]; exact if_pos h
    subst hr'
    have hq : (c.1 == z) = true := by simpa using h
    have HH := Lib.hid hr
    clear hr h
    go_enter Try.func79, Try.ntmps79
    go_wp2
    go_ret
    exact ⟨rfl, HB.out⟩
  · have hr' : r = 0 := by rw [← hr]; exact if_neg h
    subst hr'
    have hq : (c.1 == z) = false := by simpa using h
    have HH := Lib.hid hr
    clear hr h
    go_enter Try.func79, Try.ntmps79
    go_wp2
    go_ret
    exact ⟨rfl, HB.out⟩
theorem ofZone_any (z f : Int) (w : World) : Calls Try.prog 59 #[.int .i64 z, .int .i64 f] w fun e w' =>
    ∃ bz bf, e = .returned (.func (.func 79) #[] #[.pointer (some ⟨bz, 0, none⟩), .pointer (some ⟨bf, 0, none⟩)]) ∧ Box w' bz 3 [.int .i64 z] ∧ Box w' bf 76 [.int .i64 f] ∧ Below w.heap.size w w' := by
  have h1 : Box ((w.alloc (.cells #[.int .i64 z] 3)).alloc (.cells #[.int .i64 f] 76)) w.heap.size 3 [.int .i64 z] := (Box.new w _ [.int .i64 z]).same (Below.heap_alloc _ _ _ (by simp))
  have h2 : Box ((w.alloc (.cells #[.int .i64 z] 3)).alloc (.cells #[.int .i64 f] 76)) (w.heap.size + 1) 76 [.int .i64 f] := by
    have := Box.new (w.alloc (.cells #[.int .i64 z] 3)) 76 [.int .i64 f]
    rwa [show (w.alloc (.cells #[.int .i64 z] 3)).heap.size = w.heap.size + 1 by simp] at this
  have h3 : Below w.heap.size w ((w.alloc (.cells #[.int .i64 z] 3)).alloc (.cells #[.int .i64 f] 76)) := ((Below.refl _ _).alloc (Nat.le_refl _) _).alloc (by simp) _
  have H := Lib.hid (And.intro h1 (And.intro h2 h3))
  clear h1 h2 h3
  go_enter Try.func59, Try.ntmps59
  go_wp2
  go_ret
  exact ⟨_, _, rfl, H.out.1, H.out.2.1, H.out.2.2⟩
set_option maxRecDepth 100000 in
set_option maxHeartbeats 1000000 in
theorem finish1_any (b0 b1 : Nat) (z : Int) (hT : ∀ k, w.heap.size ≤ k → T k) (hO : DvOk D) (hI : DevIs T w d D) (h0 : Box w b0 32 [dp d]) (h1 : Box w b1 3 [.int .i64 z]) :
    Calls Try.prog 61 #[.pointer (some ⟨b0, 0, none⟩), .pointer (some ⟨b1, 0, none⟩)] w fun x w' => x = .returned (.tuple #[]) ∧ DevIs T w' d (sortD (zstep z 1) D) ∧ Fr T w w' := by
  have HZ := Lib.hid fun w' => ofZone_any z 1 w'
  have c0 : w.cell? ⟨b0, 0, none⟩ = some (dp d) := h0.cell 0
  have c1 : w.cell? ⟨b1, 0, none⟩ = some (.int .i64 z) := h1.cell 0
  have HC := Lib.hid fun w2 (hb : Below w.heap.size w w2) => (h0.same (hb.block _ h0.lt)).cell 0
  have HS := Lib.hid fun (w2 : World) (bz bf : Nat) (hb : Below w.heap.size w w2) (k1 : Box w2 bz 3 [.int .i64 z]) (k2 : Box w2 bf 76 [.int .i64 1]) =>
    settle_dev (w := w2) (d := d) (T := T) (D := D) 79 #[.pointer (some ⟨bz, 0, none⟩), .pointer (some ⟨bf, 0, none⟩)] (zstep z 1) (fun w' => Box w' bz 3 [.int .i64 z] ∧ Box w' bf 76 [.int .i64 1]) (fun k => k = bz ∨ k = bf)
      (fun k hk => hT k (by have := hb.size; omega)) hO (hI.below hb) ⟨k1, k2⟩ (fun k hk => hk.elim (fun h => ⟨_, _, h ▸ k1, by decide, by decide⟩) (fun h => ⟨_, _, h ▸ k2, by decide, by decide⟩)) (fun w' w'' h e => ⟨h.1.same (e _ (.inl rfl)), h.2.same (e _ (.inr rfl))⟩)
      (goes_in Try.func79 (by kernel_rfl) rfl) (fun c w' hc hi => ofZone1_any c (hO.wok c hc) bz bf z 1 w' hi.1 hi.2)
  clear h0 h1 hI hO hT
  go_enter Try.func61, Try.ntmps61
  go_wp2_with fail
  apply wp_meetE (fun w5 _ _ => DevIs T w5 d (sortD (zstep z 1) D) ∧ Fr T w w5)
  · go_region_with (first
      | ((with_reducible refine (HZ.out _).mono ?_); rintro e w2 ⟨bz, bf, rfl, k1, k2, hb⟩; have B2 : Below w.heap.size w w2 := bthen (Below.refl _ _).drew hb; have cc : w2.cell? ⟨b0, 0, none⟩ = some (dp d) := HC.out w2 B2)
      | ((with_reducible refine (HS.out _ bz bf B2 k1 k2).mono ?_); rintro e w5 ⟨rfl, hI5, hF5, _⟩))
    all_goals exact ⟨w5, bz, bf, ⟨hI5, (Fr.of_below B2).trans hF5⟩, rfl, rfl⟩
  intro w5 bz bf h5
  have H5 := Lib.hid h5
  clear h5
  go_wp2
  go_end0
  exact ⟨rfl, H5.out.1, H5.out.2⟩
end
end Go.Proofs.Ytdacdnpghngiiaa

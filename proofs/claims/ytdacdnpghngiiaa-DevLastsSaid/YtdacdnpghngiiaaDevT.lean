/-
  Package dev: Reset.
-/
import Derived.Test.YtdacdnpghngiiaaDevS
namespace Go.Proofs.Ytdacdnpghngiiaa
open Go.RowKit Geom Zone Dev
set_option linter.unusedVariables false

namespace Dev
def dropTo (f : Pl → Option Value) (z : Int) (k : Nat) : Pl → Option Value := fun a => if a.1 = z ∧ 0 ≤ a.2 ∧ a.2 < k then none else f a
theorem dropTo_zero (f : Pl → Option Value) (z : Int) : dropTo f z 0 = f := by
  funext a
  exact if_neg (by omega)
theorem dropTo_succ (f : Pl → Option Value) (z : Int) (k : Nat) : updM (dropTo f z k) (z, (k : Int)) none = dropTo f z (k + 1) := by
  funext a
  unfold updM dropTo
  by_cases h : a = (z, (k : Int))
  · rw [if_pos h, if_pos]
    subst h
    simp
    omega
  · rw [if_neg h]
    by_cases h2 : a.1 = z ∧ 0 ≤ a.2 ∧ a.2 < (k : Int)
    · rw [if_pos h2, if_pos]
      obtain ⟨x, y, z⟩ := h2
      exact ⟨x, y, by push_cast; omega⟩
    · rw [if_neg h2, if_neg]
      rintro ⟨x, y, u⟩
      push_cast at u
      refine h2 ⟨x, y, ?_⟩
      rcases Int.lt_or_le a.2 k with h3 | h3
      · exact h3
      · exact absurd (Prod.ext x (show a.2 = (k : Int) by omega)) h
def resetS (D : Dv) (z : Int) : Dv := { sortD (zstep z 2) D with last := dropTo (sortD (zstep z 2) D).last z D.size.toNat }
end Dev

section
variable {w : World} {d : Nat} {T : Nat → Prop} {D : Dv}
set_option maxRecDepth 100000 in
set_option maxHeartbeats 1000000 in
theorem reset1_any (b0 b1 : Nat) (z : Int) (hz64 : W64 z) (hT : ∀ k, w.heap.size ≤ k → T k) (hO : DvOk D) (hI : DevIs T w d D) (h0 : Box w b0 32 [dp d]) (h1 : Box w b1 3 [.int .i64 z]) :
    Calls Try.prog 58 #[.pointer (some ⟨b0, 0, none⟩), .pointer (some ⟨b1, 0, none⟩)] w fun x w' => x = .returned (.tuple #[]) ∧ DevIs T w' d (resetS D z) ∧ Fr T w w' := by
  have HZ := Lib.hid fun w' => ofZone_any z 2 w'
  have c0 : w.cell? ⟨b0, 0, none⟩ = some (dp d) := h0.cell 0
  have c1 : w.cell? ⟨b1, 0, none⟩ = some (.int .i64 z) := h1.cell 0
  have HC := Lib.hid fun w2 (hb : Below w.heap.size w w2) => (h0.same (hb.block _ h0.lt)).cell 0
  have hsz : ∃ sz : Nat, D.size = (sz : Int) ∧ sz ≤ 256 := ⟨D.size.toNat, by have := hO.ok.2.2.2.1; omega, by have := hO.ok.2.2.2.2.1; omega⟩
  obtain ⟨sz, hsz, hsz2⟩ := hsz
  have HS := Lib.hid fun (w2 : World) (bz bf : Nat) (hb : Below w.heap.size w w2) (k1 : Box w2 bz 3 [.int .i64 z]) (k2 : Box w2 bf 76 [.int .i64 2]) =>
    settle_dev (w := w2) (d := d) (T := T) (D := D) 79 #[.pointer (some ⟨bz, 0, none⟩), .pointer (some ⟨bf, 0, none⟩)] (zstep z 2) (fun w' => (Box w' bz 3 [.int .i64 z] ∧ Box w' bf 76 [.int .i64 2]) ∧ Box w' b0 32 [dp d] ∧ Box w' b1 3 [.int .i64 z]) (fun k => k = bz ∨ k = bf ∨ k = b0 ∨ k = b1)
      (fun k hk => hT k (by have := hb.size; omega)) hO (hI.below hb) ⟨⟨k1, k2⟩, h0.same (hb.block _ h0.lt), h1.same (hb.block _ h1.lt)⟩
      (fun k hk => by
        rcases hk with h | h | h | h
        · exact ⟨_, _, h ▸ k1, by decide, by decide⟩
        · exact ⟨_, _, h ▸ k2, by decide, by decide⟩
        · exact ⟨_, _, h ▸ h0.same (hb.block _ h0.lt), by decide, by decide⟩
        · exact ⟨_, _, h ▸ h1.same (hb.block _ h1.lt), by decide, by decide⟩)
      (fun w' w'' h e => ⟨⟨h.1.1.same (e _ (.inl rfl)), h.1.2.same (e _ (.inr (.inl rfl)))⟩, h.2.1.same (e _ (.inr (.inr (.inl rfl)))), h.2.2.same (e _ (.inr (.inr (.inr rfl))))⟩)
      (goes_in Try.func79 (by kernel_rfl) rfl) (fun c w' hc hi => ofZone1_any c (hO.wok c hc) bz bf z 2 w' hi.1.1 hi.1.2)
  have hu : D.use ≤ 10000000 := hO.use
  clear h0 h1 hI hO
  go_enter Try.func58, Try.ntmps58
  go_wp2_with fail
  apply wp_meetE (fun w5 _ _ => DevIs T w5 d (sortD (zstep z 2) D) ∧ Fr T w w5 ∧ Box w5 b0 32 [dp d] ∧ Box w5 b1 3 [.int .i64 z])
  · go_region_with (first
      | ((with_reducible refine (HZ.out _).mono ?_); rintro e w2 ⟨bz, bf, rfl, k1, k2, hb⟩; have B2 : Below w.heap.size w w2 := bthen (Below.refl _ _).drew hb; have cc : w2.cell? ⟨b0, 0, none⟩ = some (dp d) := HC.out w2 B2)
      | ((with_reducible refine (HS.out _ bz bf B2 k1 k2).mono ?_); rintro e w5 ⟨rfl, hI5, hF5, hI6⟩))
    all_goals exact ⟨w5, bz, bf, ⟨hI5, (Fr.of_below B2).trans hF5, hI6.2.1, hI6.2.2⟩, rfl, rfl⟩
  intro w5 bz bf h5
  obtain ⟨hI5, hF5, x0, x1⟩ := h5
  have c05 : w5.cell? ⟨b0, 0, none⟩ = some (dp d) := x0.cell 0
  have c3 : w5.cell? ⟨d, 3, none⟩ = some (.int .i64 (sz : Int)) := by
    obtain ⟨gz, cz, lb, cv, nb, hD, _⟩ := hI5
    have := hD.geo.2.2.2.1
    rw [this, show (sortD (zstep z 2) D).size = D.size from rfl, hsz]
  have HR : DevIs T w5 d { sortD (zstep z 2) D with last := dropTo (sortD (zstep z 2) D).last z 0 } := by rw [dropTo_zero]; exact hI5
  have H5 := Lib.hid (And.intro HR (And.intro hF5 (And.intro x0 x1)))
  have HSZ := Lib.hid hsz
  clear HR hI5 hF5 x0 x1 c0 c1 HC HS HZ hsz
  go_wp2
  go_loopw [12] (fun i wr => ∃ k : Nat, k ≤ sz ∧ i = .int .i64 k ∧ DevIs T wr d { sortD (zstep z 2) D with last := dropTo (sortD (zstep z 2) D).last z k } ∧ Fr T w wr ∧ Box wr b0 32 [dp d] ∧ Box wr b1 3 [.int .i64 z]) (fun i _ => sz - (intOf i).toNat)
  case atStart => exact ⟨0, by omega, rfl, H5.out.1, H5.out.2⟩
  case round =>
    obtain ⟨k, hk, rfl, hIr, hFr, x0, x1⟩ := hrel
    by_cases hlt : k < sz
    · have hIr0 := hIr
      obtain ⟨gz, cz, lb, cv, nb, hD, hown, hcv, hm, hmn, t⟩ := hIr
      have c05 : wr.cell? ⟨b0, 0, none⟩ = some (dp d) := x0.cell 0
      have c15 : wr.cell? ⟨b1, 0, none⟩ = some (.int .i64 z) := x1.cell 0
      have c6 := hD.mem.2.1
      have hkI : (k : Int) < (sz : Int) := by omega
      have HA := Lib.hid (And.intro hD (And.intro hown (And.intro hcv (And.intro hm (And.intro hmn (And.intro t (And.intro hFr (And.intro x0 x1))))))))
      clear hIr0 hD hown hcv hm hmn t hFr x0 x1 c3
      go_wp2_with fail
      go_still_tail 7, (by kernel_rfl)
      change wpList _ _ _ _ _ wr.drew
      obtain ⟨hD, hown, hcv, hm, hmn, t, hFr, x0, x1⟩ := HA.out
      refine wpList_place_drop _ rfl _ _ _ rfl 38 Try.underlying66 lb _ _ rfl (hm.same rfl) (z, (k : Int)) rfl hz64 (w64 (by omega) (by omega)) ?_
      intro w7 hm7 ht7
      rw [dropTo_succ] at hm7
      have hg7 := ht7.grown
      have e7 : ∀ x, x < wr.heap.size → x ≠ lb → w7.heap[x]? = wr.heap[x]? := fun x hx h1 => hg7.block x hx (fun e => h1 (by injection e))
      have hK : DevIs T w7 d { sortD (zstep z 2) D with last := dropTo (sortD (zstep z 2) D).last z (k + 1) } ∧ Fr T w w7 ∧ Box w7 b0 32 [dp d] ∧ Box w7 b1 3 [.int .i64 z] := by
        refine ⟨⟨gz, cz, lb, cv, nb, hD.same (e7 _ hD.lt (hD.ne_map hm)), own_same hown fun g hg => e7 g (hown.lt g hg).2 (fun h => hm.ne_row hown (h ▸ hg) rfl), own_same hcv fun g hg => e7 g (hcv.lt g hg).2 (fun h => hm.ne_row hcv (h ▸ hg) rfl), hm7, hmn.same (e7 _ hmn.lt (fun h => t.2.2.2.2.2 h.symm)), t⟩, ?_, x0.same (e7 _ x0.lt (x0.ne_map hm)), x1.same (e7 _ x1.lt (x1.ne_map hm))⟩
        exact (hFr.drew).trans (Fr.of_grown hg7 (fun k e => by injection e with e; exact e ▸ t.2.2.1))
      have HK := Lib.hid hK
      clear hK hD hown hcv hm hmn t hFr x0 x1 hm7 ht7 hg7 e7 HA c05 c15 c6
      go_frame
      go_wp2
      go_roundw
      case rel => exact ⟨k + 1, by omega, by go_num, HK.out⟩
      case measure => simp [intOf]; omega
    · obtain rfl : k = sz := by omega
      have HK := Lib.hid (And.intro hIr hFr)
      clear hIr hFr x0 x1
      go_wp2
      go_end0
      have e : resetS D z = { sortD (zstep z 2) D with last := dropTo (sortD (zstep z 2) D).last z k } := by unfold resetS; rw [HSZ.out]; rfl
      rw [e]
      exact ⟨rfl, HK.out⟩
end
end Go.Proofs.Ytdacdnpghngiiaa

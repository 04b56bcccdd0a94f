/-
  'awake' of layer 16 answers true; the size; arguments that are candidates, opened.
-/
import Derived.Test.YtndjjgabfmplcaaPiD
import Derived.Test.YtndjjgabfmplcaaPiF
namespace Go.Proofs.Ytndjjgabfmplcaa
open Go.RowKit Go.ChangeShapes Go.WideShapes Pick
set_option linter.unusedVariables false

theorem size_any (n : Int) (w : World) (h : 0 ≤ n ∧ n ≤ 255) : Calls Try.prog 9 #[.int .u8 n] w fun e w' => e = .returned (.int .i64 (1 + n)) ∧ w = w' := by
  have k1 := IntWalk.i64_in n (by omega)
  have k2 := IntWalk.i64_in (1 + n) (by omega)
  go_enter Try.func9, Try.ntmps9
  go_wp2
  go_ret
  exact ⟨rfl, rfl⟩
theorem size_size {n : Int} (h : 0 ≤ n ∧ n ≤ 255) : Size (1 + n) := ⟨by omega, by omega⟩
theorem u8_in {x : Int} (h : (Lit.int .u8 x).wf = true) : 0 ≤ x ∧ x ≤ 255 := by simpa [Lit.wf, IntKind.min, IntKind.max, IntKind.signed, IntKind.bits] using h
abbrev shCand : Sh := .pair 1 (.int .i64) (.pair 1 (.int .i64) (.pair 1 (.int .i64) .nil))
theorem open_cand {H : Type} {enc : TypeId × Value → H} {w : World} {base b0 : Nat} {r : Reach} {sp : Nat → Bool} {held : Bool} {v : Value} {d : DataW H} {ps : List MemPlace}
    (hu : Value.okWide Try.prog w r b0 23 v) (h : DataW.Trod enc Try.prog w base sp held 23 v d ps) : ∃ c : Cd, v = .agg (kcs c).toArray := by
  obtain ⟨cs, rfl, hs⟩ := has_agg (s := shCand) 3 (by kernel_rfl) h hu (.inl ⟨_, Try.underlying23⟩)
  obtain ⟨_, _, rfl, _, ⟨z, rfl, _⟩, _, _, rfl, _, ⟨l, rfl, _⟩, _, _, rfl, _, ⟨a, rfl, _⟩, rfl⟩ := hs
  exact ⟨⟨z, l, a⟩, rfl⟩
theorem rows_cands {w : World} : ∀ (rows : List (List Value)), (∀ r ∈ rows, r.length = 3 ∧ Has shCand w r) → ∃ ls : List Cd, ls.length = rows.length ∧ rows.flatten = kls ls
  | [], _ => ⟨[], rfl, rfl⟩
  | r :: rows, h => by
    obtain ⟨ls, h1, h2⟩ := rows_cands rows fun x hx => h x (List.mem_cons_of_mem _ hx)
    obtain ⟨_, _, _, rfl, _, ⟨z, rfl, _⟩, _, _, rfl, _, ⟨l, rfl, _⟩, _, _, rfl, _, ⟨a, rfl, _⟩, rfl⟩ := h r List.mem_cons_self
    exact ⟨⟨z, l, a⟩ :: ls, by simp [h1], by rw [List.flatten_cons, h2]; rfl⟩
set_option maxRecDepth 100000 in
theorem open_cands {H : Type} {enc : TypeId × Value → H} {w : World} {base b0 : Nat} {r : Reach} {sp : Nat → Bool} {held : Bool} {v : Value} {d : DataW H} {ps : List MemPlace}
    (hu : Value.okWide Try.prog w r b0 29 v) (h : DataW.Trod enc Try.prog w base sp held 29 v d ps) :
    ∃ (A : Option Addr) (n cap : Nat) (ls : List Cd), v = .slice A n cap ∧ n ≤ cap ∧ cap ≤ maxLen ∧ ls.length = n ∧ Rd w w.heap.size A (kls ls) := by
  obtain ⟨a, len, cap, rfl⟩ := okWide_slice Try.underlying29 hu
  have hs := has_of (s := .slice 3 shCand) 6 (by kernel_rfl) h
  obtain ⟨A, n, c, rows, h1, h2, h3, h4, h5, h6⟩ := hs
  obtain ⟨ls, h7, h8⟩ := rows_cands rows h6
  have h9 : [Value.slice a len cap] = [.slice A n c] := h1
  obtain ⟨rfl, rfl, rfl⟩ : a = A ∧ len = n ∧ cap = c := by simpa using h9
  exact ⟨a, len, cap, ls, rfl, h2, h3, by omega, by rw [← h8]; exact h5⟩
def Pick.awL : List Cd := [⟨2, 5, 0⟩, ⟨3, 4, 0⟩, ⟨4, 8, 0⟩]
def Pick.awL2 : List Cd := [⟨2, 5, 99⟩, ⟨3, 4, 0⟩, ⟨4, 8, 0⟩]
theorem top_of {s p : Int} {l : List Cd} {b : Cd} (h1 : b ∈ l) (h2 : Okc s b) (h3 : (l.all fun x => !(decide (Okc s x) && decide (Bet s p x b))) = true) : Best s p l (some b) := by
  refine ⟨h1, h2, fun x hx hk hb => ?_⟩
  have := List.all_eq_true.1 h3 x hx
  simp [hk, hb] at this
theorem aw1 : Best 8 0 awL (some ⟨3, 4, 0⟩) := top_of (by simp [awL]) (by decide) (by decide)
theorem aw2 : Best 8 1 awL2 (some ⟨2, 5, 99⟩) := top_of (by simp [awL2]) (by decide) (by decide)
theorem aw3 : Best 8 0 (awL2.drop 2) none := by
  intro x hx
  obtain rfl : x = ⟨4, 8, 0⟩ := by simpa [awL2] using hx
  decide
theorem awL_aged : ∀ x ∈ awL, Aged x := by
  intro x hx
  simp only [awL, List.mem_cons, List.not_mem_nil, or_false] at hx
  rcases hx with rfl | rfl | rfl <;> decide
theorem awL2_aged : ∀ x ∈ awL2, Aged x := by
  intro x hx
  simp only [awL2, List.mem_cons, List.not_mem_nil, or_false] at hx
  rcases hx with rfl | rfl | rfl <;> decide
theorem rd_of_box {w : World} {b B : Nat} {T : TypeId} {cs : List Value} (h : Box w b T cs) (hB : b < B) : Rd w B (some ⟨b, 0, none⟩) cs := fun _ => ⟨_, rfl, hB, fun j u hu => by
  have e : (⟨b, 0, none⟩ : Addr).add j = ⟨b, j, none⟩ := by
    unfold Addr.add
    by_cases hj : j = 0
    · rw [if_pos hj, hj]
    · rw [if_neg hj]; simp
  rw [e, h.cell]
  exact hu⟩
set_option maxRecDepth 100000 in
set_option maxHeartbeats 4000000 in
theorem awake16_any (w : World) : Calls Try.prog 7 #[] w fun e w' => e = .returned (.bool true) ∧ Below w.heap.size w w' := by
  go_enter Try.func7, Try.ntmps7
  go_wp2_with fail
  have H0 : Hid (Box (w.alloc (.cells #[.int .i64 2, .int .i64 5, .int .i64 0, .int .i64 3, .int .i64 4, .int .i64 0, .int .i64 4, .int .i64 8, .int .i64 0] 23)) w.heap.size 23 (kls awL) ∧ Below w.heap.size w (w.alloc (.cells #[.int .i64 2, .int .i64 5, .int .i64 0, .int .i64 3, .int .i64 4, .int .i64 0, .int .i64 4, .int .i64 8, .int .i64 0] 23))) := Lib.hid ⟨Box.new w _ (kls awL), (Below.refl _ _).alloc (Nat.le_refl _) _⟩
  generalize World.alloc _ _ = w1 at H0 ⊢
  refine (pbest_any 8 0 (some ⟨w.heap.size, 0, none⟩) 3 3 awL w1 ⟨by decide, by decide⟩ rfl (by decide) awL_aged (rd_of_box H0.out.1 H0.out.1.lt)).mono ?_
  rintro e w2 ⟨o, ho, rfl, hb2⟩
  obtain ⟨z1, z2⟩ := best_same ho aw1 (fun x => Iff.rfl)
  have H2 := Lib.hid (And.intro (H0.out.1.on hb2) (bthen H0.out.2 hb2))
  rw [z1, z2]
  clear ho z1 z2 hb2 o H0
  have c2 : w2.cell? ⟨w.heap.size, 2, none⟩ = some (.int .i64 0) := H2.out.1.cell 2
  have f2 := H2.out.1.frozen 2
  have H3 : Hid (Box (w2.setCell ⟨w.heap.size, 2, none⟩ (.int .i64 99)) w.heap.size 23 (kls awL2) ∧ Below w.heap.size w (w2.setCell ⟨w.heap.size, 2, none⟩ (.int .i64 99))) := Lib.hid ⟨H2.out.1.set 2 _, H2.out.2.setCell (p := ⟨w.heap.size, 2, none⟩) (Nat.le_refl _) _⟩
  go_wp2_with fail
  clear c2 f2 H2
  generalize World.setCell _ _ _ = w3 at H3 ⊢
  refine (pbest_any 8 1 (some ⟨w.heap.size, 0, none⟩) 3 3 awL2 w3 ⟨by decide, by decide⟩ rfl (by decide) awL2_aged (rd_of_box H3.out.1 H3.out.1.lt)).mono ?_
  rintro e w4 ⟨o, ho, rfl, hb4⟩
  obtain ⟨z1, z2⟩ := best_same ho aw2 (fun x => Iff.rfl)
  have H4 := Lib.hid (And.intro (H3.out.1.on hb4) (H3.out.2.trans (hb4.mono H3.out.2.size)))
  rw [z1, z2]
  clear ho z1 z2 hb4 o H3
  go_wp2_with fail
  refine (pbest_any 8 0 (some ⟨w.heap.size, 6, none⟩) 1 1 (awL2.drop 2) w4 ⟨by decide, by decide⟩ rfl (by decide) (fun x hx => awL2_aged x (List.mem_of_mem_drop hx)) (by rw [kls_drop]; exact (rd_of_box H4.out.1 H4.out.1.lt).tail)).mono ?_
  rintro e w5 ⟨o, ho, rfl, hb5⟩
  obtain ⟨z1, z2⟩ := best_same ho aw3 (fun x => Iff.rfl)
  have H5 := Lib.hid (H4.out.2.trans (hb5.mono H4.out.2.size))
  rw [z1, z2]
  clear ho z1 z2 hb5 o H4
  go_wp2
  go_ret
  exact ⟨rfl, H5.out⟩
end Go.Proofs.Ytndjjgabfmplcaa

/-
  Arguments that are found records, or groups, opened.
-/
import Derived.Test.YtkbgogofedppgaaRoB
import Derived.Test.YtkbgogofedppgaaIsa
namespace Go.Proofs.Ytkbgogofedppgaa
open Go.RowKit Go.ChangeShapes Go.WideShapes Word Rec Scan Roll Leaf
set_option linter.unusedVariables false

abbrev shRc : Sh := .pair 1 (.int .i64) (.pair 1 (.int .i64) (.pair 1 (.int .i64) (.pair 1 (.int .i64) (.pair 1 (.int .i64) (.pair 32 (.rep 32 1 (.int .u8)) .nil)))))
theorem has_rc {w : World} {cs : List Value} (h : Has shRc w cs) : ∃ r : Rc, cs = rcs r ∧ In r := by
  obtain ⟨_, _, rfl, _, ⟨k, rfl, hk⟩, _, _, rfl, _, ⟨e, rfl, he⟩, _, _, rfl, _, ⟨s, rfl, hs⟩, _, _, rfl, _, ⟨b, rfl, hb⟩, _, _, rfl, _, ⟨c, rfl, hc⟩, _, _, rfl, _, hd, rfl⟩ := h
  obtain ⟨ws, h1, rfl, h3⟩ := has_ints hd
  exact ⟨⟨k, e, s, b, c, ws⟩, by simp [rcs, bs], ⟨h1, wf_u8 h3⟩⟩
theorem rows_fos {w : World} : ∀ (rows : List (List Value)), (∀ r ∈ rows, r.length = 38 ∧ Has (.pair 1 (.int .i64) (.pair 37 shRc .nil)) w r) → ∃ ls : List Fo, ls.length = rows.length ∧ rows.flatten = fls ls ∧ ∀ l ∈ ls, FIn l
  | [], _ => ⟨[], rfl, rfl, fun l h => (List.not_mem_nil h).elim⟩
  | r :: rows, h => by
    obtain ⟨ls, h1, h2, h3⟩ := rows_fos rows fun x hx => h x (List.mem_cons_of_mem _ hx)
    obtain ⟨_, _, _, rfl, _, ⟨p, rfl, _⟩, _, _, rfl, _, hr, rfl⟩ := h r List.mem_cons_self
    obtain ⟨x, rfl, g1⟩ := has_rc hr
    refine ⟨⟨p, x⟩ :: ls, by simp [h1], ?_, ?_⟩
    · rw [List.flatten_cons, h2]
      simp [fls, fcs]
    · intro l hl
      rcases List.mem_cons.1 hl with rfl | hl
      · exact g1
      · exact h3 l hl
set_option maxRecDepth 100000 in
theorem open_fos {H : Type} {enc : TypeId × Value → H} {w : World} {base b0 : Nat} {r : Reach} {sp : Nat → Bool} {held : Bool} {v : Value} {d : DataW H} {ps : List MemPlace}
    (hu : Value.okWide Try.prog w r b0 33 v) (h : DataW.Trod enc Try.prog w base sp held 33 v d ps) :
    ∃ (A : Option Addr) (n cap : Nat) (ls : List Fo), v = .slice A n cap ∧ n ≤ cap ∧ cap ≤ maxLen ∧ ls.length = n ∧ (∀ l ∈ ls, FIn l) ∧ Rd w w.heap.size A (fls ls) := by
  obtain ⟨a, len, cap, rfl⟩ := okWide_slice Try.underlying33 hu
  have hs := has_of (s := .slice 38 (.pair 1 (.int .i64) (.pair 37 shRc .nil))) 6 (by kernel_rfl) h
  obtain ⟨A, n, c, rows, h1, h2, h3, h4, h5, h6⟩ := hs
  obtain ⟨ls, h7, h8, h10⟩ := rows_fos rows h6
  have h9 : [Value.slice a len cap] = [.slice A n c] := h1
  obtain ⟨rfl, rfl, rfl⟩ : a = A ∧ len = n ∧ cap = c := by simpa using h9
  exact ⟨a, len, cap, ls, rfl, h2, h3, by omega, h10, by rw [← h8]; exact h5⟩
theorem rows_chs {w : World} : ∀ (rows : List (List Value)), (∀ r ∈ rows, r.length = 2 ∧ Has (.pair 1 (.int .i64) (.pair 1 (.int .i64) .nil)) w r) → ∃ ls : List Ch, ls.length = rows.length ∧ rows.flatten = hls ls
  | [], _ => ⟨[], rfl, rfl⟩
  | r :: rows, h => by
    obtain ⟨ls, h1, h2⟩ := rows_chs rows fun x hx => h x (List.mem_cons_of_mem _ hx)
    obtain ⟨_, _, _, rfl, _, ⟨p, rfl, _⟩, _, _, rfl, _, ⟨q, rfl, _⟩, rfl⟩ := h r List.mem_cons_self
    exact ⟨⟨p, q⟩ :: ls, by simp [h1], by rw [List.flatten_cons, h2]; rfl⟩
abbrev shCh : Sh := .pair 1 (.int .i64) (.pair 1 (.int .i64) .nil)
theorem rows_gvs {w : World} : ∀ (rows : List (List Value)), (∀ r ∈ rows, r.length = 3 ∧ Has (.pair 1 .bool (.pair 1 (.int .i64) (.pair 1 (.slice 2 shCh) .nil))) w r) → ∃ L : List Gv, L.length = rows.length ∧ rows.flatten = gvs L ∧ ∀ x ∈ L, x.g.ch.length ≤ maxLen ∧ Rd w w.heap.size x.A (hls x.g.ch)
  | [], _ => ⟨[], rfl, rfl, fun l h => (List.not_mem_nil h).elim⟩
  | r :: rows, h => by
    obtain ⟨L, h1, h2, h3⟩ := rows_gvs rows fun x hx => h x (List.mem_cons_of_mem _ hx)
    obtain ⟨_, _, _, rfl, _, ⟨o, rfl⟩, _, _, rfl, _, ⟨s, rfl, _⟩, _, _, rfl, _, ⟨A, n, c, rs, rfl, g1, g2, g3, g4, g5⟩, rfl⟩ := h r List.mem_cons_self
    obtain ⟨ch, k1, k2⟩ := rows_chs rs g5
    refine ⟨⟨⟨o, s, ch⟩, A, c⟩ :: L, by simp [h1], ?_, ?_⟩
    · rw [List.flatten_cons, h2, gvs_cons]
      obtain rfl : n = ch.length := by omega
      rfl
    · intro x hx
      rcases List.mem_cons.1 hx with rfl | hx
      · refine ⟨?_, ?_⟩
        · show ch.length ≤ maxLen
          omega
        · show Rd w w.heap.size A (hls ch)
          rw [← k2]
          exact g4
      · exact h3 x hx
set_option maxRecDepth 100000 in
theorem open_gvs {H : Type} {enc : TypeId × Value → H} {w : World} {base b0 : Nat} {r : Reach} {sp : Nat → Bool} {held : Bool} {v : Value} {d : DataW H} {ps : List MemPlace}
    (hu : Value.okWide Try.prog w r b0 23 v) (h : DataW.Trod enc Try.prog w base sp held 23 v d ps) :
    ∃ (A : Option Addr) (n cap : Nat) (L : List Gv), v = .slice A n cap ∧ n ≤ maxLen ∧ L.length = n ∧ (∀ x ∈ L, x.g.ch.length ≤ maxLen) ∧ GRd w w.heap.size A L := by
  obtain ⟨a, len, cap, rfl⟩ := okWide_slice Try.underlying23 hu
  have hs := has_of (s := .slice 3 (.pair 1 .bool (.pair 1 (.int .i64) (.pair 1 (.slice 2 shCh) .nil)))) 6 (by kernel_rfl) h
  obtain ⟨A, n, c, rows, h1, h2, h3, h4, h5, h6⟩ := hs
  obtain ⟨ls, h7, h8, h10⟩ := rows_gvs rows h6
  have h9 : [Value.slice a len cap] = [.slice A n c] := h1
  obtain ⟨rfl, rfl, rfl⟩ : a = A ∧ len = n ∧ cap = c := by simpa using h9
  exact ⟨a, len, cap, ls, rfl, by omega, by omega, fun x hx => (h10 x hx).1, by rw [← h8]; exact h5, fun x hx => (h10 x hx).2⟩
end Go.Proofs.Ytkbgogofedppgaa

/-
  Arguments of layer 18, opened: writes, lists of them, transactions, ledgers.
-/
import Derived.Test.YtiljjgohmjimdaaTrW
import Derived.SizedLaws
namespace Go.Proofs.Ytiljjgohmjimdaa
open Go.RowKit Go.ChangeShapes Go.WideShapes Word Tran
set_option linter.unusedVariables false

abbrev shWt : Sh := .pair 1 (.int .i64) (.pair 1 .bool (.pair 32 (.rep 32 1 (.int .u8)) .nil))
abbrev shTn : Sh := .pair 1 (.int .i64) (.pair 1 (.int .i64) (.pair 1 (.slice 34 shWt) .nil))
abbrev shLg : Sh := .pair 1 (.int .i64) (.pair 1 (.slice 3 shTn) .nil)
theorem has_wt {w : World} {cs : List Value} (h : Has shWt w cs) : ∃ o : Wt, cs = twc o ∧ WIn o := by
  obtain ⟨_, _, rfl, _, ⟨b, rfl, hb⟩, _, _, rfl, _, ⟨e, rfl⟩, _, _, rfl, _, hd, rfl⟩ := h
  obtain ⟨ws, h1, rfl, h3⟩ := has_ints hd
  exact ⟨⟨b, e, ws⟩, by simp [twc, bs], h1⟩
theorem rows_wts {w : World} : ∀ (rows : List (List Value)), (∀ r ∈ rows, r.length = 34 ∧ Has shWt w r) → ∃ ls : List Wt, ls.length = rows.length ∧ rows.flatten = tws ls ∧ ∀ l ∈ ls, WIn l
  | [], _ => ⟨[], rfl, rfl, fun l h => (List.not_mem_nil h).elim⟩
  | r :: rows, h => by
    obtain ⟨ls, h1, h2, h3⟩ := rows_wts rows fun x hx => h x (List.mem_cons_of_mem _ hx)
    obtain ⟨o, rfl, g1⟩ := has_wt (h r List.mem_cons_self).2
    refine ⟨o :: ls, by simp [h1], ?_, ?_⟩
    · rw [List.flatten_cons, h2]
      rfl
    · intro l hl
      rcases List.mem_cons.1 hl with rfl | hl
      · exact g1
      · exact h3 l hl
set_option maxRecDepth 100000 in
theorem open_wt {H : Type} {enc : TypeId × Value → H} {w : World} {base b0 : Nat} {r : Reach} {sp : Nat → Bool} {held : Bool} {v : Value} {d : DataW H} {ps : List MemPlace}
    (hu : Value.okWide Try.prog w r b0 49 v) (h : DataW.Trod enc Try.prog w base sp held 49 v d ps) : ∃ o : Wt, v = wval o ∧ WIn o := by
  obtain ⟨cs, rfl, hs⟩ := has_agg (s := shWt) 5 (by kernel_rfl) h hu (.inl ⟨_, Try.underlying49⟩)
  obtain ⟨o, rfl, g⟩ := has_wt hs
  exact ⟨o, rfl, g⟩
set_option maxRecDepth 100000 in
theorem open_wts {H : Type} {enc : TypeId × Value → H} {w : World} {base b0 : Nat} {r : Reach} {sp : Nat → Bool} {held : Bool} {v : Value} {d : DataW H} {ps : List MemPlace}
    (hu : Value.okWide Try.prog w r b0 25 v) (h : DataW.Trod enc Try.prog w base sp held 25 v d ps) :
    ∃ (A : Option Addr) (n cap : Nat) (ls : List Wt), v = .slice A n cap ∧ n ≤ maxLen ∧ ls.length = n ∧ (∀ l ∈ ls, WIn l) ∧ Rd w w.heap.size A (tws ls) := by
  obtain ⟨a, len, cap, rfl⟩ := okWide_slice Try.underlying25 hu
  have hs := has_of (s := .slice 34 shWt) 6 (by kernel_rfl) h
  obtain ⟨A, n, c, rows, h1, h2, h3, h4, h5, h6⟩ := hs
  obtain ⟨ls, h7, h8, h10⟩ := rows_wts rows h6
  have h9 : [Value.slice a len cap] = [.slice A n c] := h1
  obtain ⟨rfl, rfl, rfl⟩ : a = A ∧ len = n ∧ cap = c := by simpa using h9
  exact ⟨a, len, cap, ls, rfl, by omega, by omega, h10, by rw [← h8]; exact h5⟩
/-- a transaction as an argument -/
structure TRaw (w : World) (x : Tv) : Prop where
  few : x.t.ws.length ≤ maxLen
  each : ∀ o ∈ x.t.ws, WIn o
  rd : Rd w w.heap.size x.A (tws x.t.ws)
  le : x.t.ws.length ≤ x.cap
theorem has_tn {w : World} {cs : List Value} (h : Has shTn w cs) : ∃ x : Tv, cs = tnc x ∧ TRaw w x := by
  obtain ⟨_, _, rfl, _, ⟨id, rfl, _⟩, _, _, rfl, _, ⟨bg, rfl, _⟩, _, _, rfl, _, ⟨A, n, c, rs, rfl, g1, g2, g3, g4, g5⟩, rfl⟩ := h
  obtain ⟨os, k1, k2, k3⟩ := rows_wts rs g5
  have hn : os.length = n := by omega
  subst hn
  exact ⟨⟨⟨id, bg, os⟩, A, c⟩, rfl, Nat.le_trans g1 g2, k3, by rw [← k2]; exact g4, g1⟩
theorem rows_tns {w : World} : ∀ (rows : List (List Value)), (∀ r ∈ rows, r.length = 3 ∧ Has shTn w r) → ∃ L : List Tv, L.length = rows.length ∧ rows.flatten = tns L ∧ ∀ x ∈ L, TRaw w x
  | [], _ => ⟨[], rfl, rfl, fun l h => (List.not_mem_nil h).elim⟩
  | r :: rows, h => by
    obtain ⟨L, h1, h2, h3⟩ := rows_tns rows fun x hx => h x (List.mem_cons_of_mem _ hx)
    obtain ⟨x, rfl, g1⟩ := has_tn (h r List.mem_cons_self).2
    refine ⟨x :: L, by simp [h1], ?_, ?_⟩
    · rw [List.flatten_cons, h2]
      rfl
    · intro l hl
      rcases List.mem_cons.1 hl with rfl | hl
      · exact g1
      · exact h3 l hl
/-- a slice within a transaction is as programs make them -/
theorem tn_slice {H : Type} {enc : TypeId × Value → H} {w : World} {base k : Nat} {sp : Nat → Bool} {held : Bool} {cs : List Value} {y : DataW H × List MemPlace} (h : DataW.trod enc Try.prog w base sp held k 27 cs = some y)
    {A : Option Addr} {len cap : Nat} (hc : cs[2]? = some (.slice A len cap)) (hle : len ≤ cap) : SlOk A len cap := by
  obtain ⟨xs, m, rfl, rfl, hl, hxl, hx⟩ := DataW.trod_struct Try.underlying27 h
  have h1 := hx 2 _ rfl
  have hlen : cs.length = 3 := hl.trans (by kernel_rfl)
  have hcs : (cs.drop 2).take (Try.prog.cellsOf 25) = [.slice A len cap] := by
    rw [show Try.prog.cellsOf 25 = 1 by kernel_rfl]
    have h0 : 2 < cs.length := by omega
    have e : cs.drop 2 = cs[2] :: cs.drop 3 := List.drop_eq_getElem_cons h0
    rw [List.getElem?_eq_getElem h0] at hc
    injection hc with hc
    rw [e, hc]
    rfl
  have h2 : DataW.trod enc Try.prog w base sp held m 25 [.slice A len cap] = xs[2]? := by
    rw [← hcs]
    exact h1
  have h3 : 2 < xs.length := by rw [hxl]; decide
  rw [List.getElem?_eq_getElem h3] at h2
  rcases DataW.trod_slice Try.underlying25 h2 with ⟨e1, _⟩ | ⟨a, len', cap', elems, rest, n, _, e1, _⟩
  · have e1 : [Value.slice A len cap] = [.slice none 0 0] := e1
    exact .inl (by simpa using e1)
  · have e1 : [Value.slice A len cap] = [.slice (some a) len' cap'] := e1
    have e4 : A = some a ∧ len = len' ∧ cap = cap' := by simpa using e1
    exact .inr ⟨a, e4.1, hle⟩
set_option maxRecDepth 100000 in
theorem open_tn {H : Type} {enc : TypeId × Value → H} {w : World} {base b0 : Nat} {r : Reach} {sp : Nat → Bool} {held : Bool} {v : Value} {d : DataW H} {ps : List MemPlace}
    (hu : Value.okWide Try.prog w r b0 27 v) (h : DataW.Trod enc Try.prog w base sp held 27 v d ps) : ∃ x : Tv, v = tval x ∧ TRaw w x ∧ SlOk x.A x.t.ws.length x.cap := by
  obtain ⟨cs, rfl, hs⟩ := has_agg (s := shTn) 7 (by kernel_rfl) h hu (.inl ⟨_, Try.underlying27⟩)
  obtain ⟨x, rfl, g⟩ := has_tn hs
  obtain ⟨fuel, hf⟩ := h
  exact ⟨x, rfl, g, tn_slice hf rfl g.le⟩
set_option maxRecDepth 100000 in
theorem open_lg {H : Type} {enc : TypeId × Value → H} {w : World} {base b0 : Nat} {r : Reach} {sp : Nat → Bool} {held : Bool} {v : Value} {d : DataW H} {ps : List MemPlace}
    (hu : Value.okWide Try.prog w r b0 24 v) (h : DataW.Trod enc Try.prog w base sp held 24 v d ps) : ∃ x : Lv, v = lval x ∧ LRaw w x := by
  obtain ⟨cs, rfl, hs⟩ := has_agg (s := shLg) 9 (by kernel_rfl) h hu (.inl ⟨_, Try.underlying24⟩)
  obtain ⟨_, _, rfl, _, ⟨nx, rfl, _⟩, _, _, rfl, _, ⟨A, n, c, rs, rfl, g1, g2, g3, g4, g5⟩, rfl⟩ := hs
  obtain ⟨L, k1, k2, k3⟩ := rows_tns rs g5
  have hn : L.length = n := by omega
  subst hn
  exact ⟨⟨nx, L, A, c⟩, rfl, Nat.le_trans g1 g2, ⟨by rw [← k2]; exact g4, fun x hx => (k3 x hx).rd⟩, fun x hx => ⟨(k3 x hx).few, (k3 x hx).each⟩⟩
end Go.Proofs.Ytiljjgohmjimdaa

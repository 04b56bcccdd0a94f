/-
  Arguments of layer 17, opened: lists of what blocks were; acts, whose lists are no longer than memory.
-/
import Derived.Test.YtjjomfpkdbfhdaaSnK
import Derived.SizedLaws
namespace Go.Proofs.Ytjjomfpkdbfhdaa
open Go.RowKit Go.ChangeShapes Go.WideShapes Word Snap
set_option linter.unusedVariables false

abbrev shOl : Sh := .pair 1 (.int .i64) (.pair 1 .bool (.pair 32 (.rep 32 1 (.int .u8)) .nil))
theorem has_ol {w : World} {cs : List Value} (h : Has shOl w cs) : ∃ o : Ol, cs = ocs o ∧ OIn o := by
  obtain ⟨_, _, rfl, _, ⟨b, rfl, hb⟩, _, _, rfl, _, ⟨e, rfl⟩, _, _, rfl, _, hd, rfl⟩ := h
  obtain ⟨ws, h1, rfl, h3⟩ := has_ints hd
  exact ⟨⟨b, e, ws⟩, by simp [ocs, bs], h1, hb⟩
theorem rows_ols {w : World} : ∀ (rows : List (List Value)), (∀ r ∈ rows, r.length = 34 ∧ Has shOl w r) → ∃ ls : List Ol, ls.length = rows.length ∧ rows.flatten = ols ls ∧ ∀ l ∈ ls, OIn l
  | [], _ => ⟨[], rfl, rfl, fun l h => (List.not_mem_nil h).elim⟩
  | r :: rows, h => by
    obtain ⟨ls, h1, h2, h3⟩ := rows_ols rows fun x hx => h x (List.mem_cons_of_mem _ hx)
    obtain ⟨o, rfl, g1⟩ := has_ol (h r List.mem_cons_self).2
    refine ⟨o :: ls, by simp [h1], ?_, ?_⟩
    · rw [List.flatten_cons, h2]
      rfl
    · intro l hl
      rcases List.mem_cons.1 hl with rfl | hl
      · exact g1
      · exact h3 l hl
set_option maxRecDepth 100000 in
theorem open_olds {H : Type} {enc : TypeId × Value → H} {w : World} {base b0 : Nat} {r : Reach} {sp : Nat → Bool} {held : Bool} {v : Value} {d : DataW H} {ps : List MemPlace}
    (hu : Value.okWide Try.prog w r b0 31 v) (h : DataW.Trod enc Try.prog w base sp held 31 v d ps) :
    ∃ (A : Option Addr) (n cap : Nat) (ls : List Ol), v = .slice A n cap ∧ n ≤ cap ∧ cap ≤ maxLen ∧ ls.length = n ∧ (∀ l ∈ ls, OIn l) ∧ Rd w w.heap.size A (ols ls) := by
  obtain ⟨a, len, cap, rfl⟩ := okWide_slice Try.underlying31 hu
  have hs := has_of (s := .slice 34 shOl) 6 (by kernel_rfl) h
  obtain ⟨A, n, c, rows, h1, h2, h3, h4, h5, h6⟩ := hs
  obtain ⟨ls, h7, h8, h10⟩ := rows_ols rows h6
  have h9 : [Value.slice a len cap] = [.slice A n c] := h1
  obtain ⟨rfl, rfl, rfl⟩ : a = A ∧ len = n ∧ cap = c := by simpa using h9
  exact ⟨a, len, cap, ls, rfl, h2, h3, by omega, h10, by rw [← h8]; exact h5⟩

abbrev shAct : Sh := .pair 1 (.int .u8) (.pair 1 (.slice 34 shOl) (.pair 1 (.int .i64) .nil))
/-- what a list's reading weighs -/
theorem act_len {H : Type} {enc : TypeId × Value → H} {w : World} {base k : Nat} {sp : Nat → Bool} {held : Bool} {cs : List Value} {y : DataW H × List MemPlace} (h : DataW.trod enc Try.prog w base sp held k 33 cs = some y)
    (hw : ∀ x ∈ y.1.weights Try.prog 33, x ≤ reachBytes) {A : Option Addr} {len cap : Nat} (hc : cs[1]? = some (.slice A len cap)) : len ≤ 140737488355328 := by
  obtain ⟨xs, m, rfl, rfl, hl, hxl, hx⟩ := DataW.trod_struct Try.underlying33 h
  have h1 := hx 1 _ rfl
  have hlen : cs.length = 3 := hl.trans (by kernel_rfl)
  have hcs : (cs.drop 1).take (Try.prog.cellsOf 31) = [.slice A len cap] := by
    rw [show Try.prog.cellsOf 31 = 1 by kernel_rfl]
    have h0 : 1 < cs.length := by omega
    have e : cs.drop 1 = cs[1] :: cs.drop 2 := List.drop_eq_getElem_cons h0
    rw [List.getElem?_eq_getElem h0] at hc
    injection hc with hc
    rw [e, hc]
    rfl
  have h2 : DataW.trod enc Try.prog w base sp held m 31 [.slice A len cap] = xs[1]? := by
    rw [← hcs]
    exact h1
  have h3 : 1 < xs.length := by rw [hxl]; decide
  rw [List.getElem?_eq_getElem h3] at h2
  rcases DataW.trod_slice Try.underlying31 h2 with ⟨e1, _⟩ | ⟨a, len', cap', elems, rest, n, _, e1, e2, _, _, _, e3, _⟩
  · injection e1 with e1
    injection e1 with _ e1
    omega
  · injection e1 with e1
    injection e1 with _ e1
    subst e1
    have hmem : (xs.map (·.1))[1]? = some (.slice (elems.map (·.1)) (rest.map (·.1))) := by
      rw [List.getElem?_map, List.getElem?_eq_getElem h3, e2]
      rfl
    have hwt : (elems.length + rest.length) * Try.prog.bytesOf 38 ∈ DataW.weightsEach Try.prog [5, 31, 3] (xs.map (·.1)) :=
      DataW.weights_mem_each (j := 1) rfl hmem _ (by simp [DataW.weights, Try.underlying31])
    have hle := hw _ (by simpa [DataW.weights, Try.underlying33] using hwt)
    have hb : Try.prog.bytesOf 38 = 48 := by kernel_rfl
    rw [hb] at hle
    have := reachBytes_lt
    omega
theorem rows_avs {w : World} : ∀ (rows : List (List Value)), (∀ r ∈ rows, (r.length = 3 ∧ Has shAct w r) ∧ ∀ A len cap, r[1]? = some (.slice A len cap) → len ≤ 140737488355328) → ∃ L : List Av, L.length = rows.length ∧ rows.flatten = avs L ∧ ∀ x ∈ L, AvIn w w.heap.size x
  | [], _ => ⟨[], rfl, rfl, fun l h => (List.not_mem_nil h).elim⟩
  | r :: rows, h => by
    obtain ⟨L, h1, h2, h3⟩ := rows_avs rows fun x hx => h x (List.mem_cons_of_mem _ hx)
    obtain ⟨⟨_, hh⟩, hfar⟩ := h r List.mem_cons_self
    obtain ⟨_, _, rfl, _, ⟨kd, rfl, hkd⟩, _, _, rfl, _, ⟨A, n, c, rs, rfl, g1, g2, g3, g4, g5⟩, _, _, rfl, _, ⟨nn, rfl, _⟩, rfl⟩ := hh
    obtain ⟨os, k1, k2, k3⟩ := rows_ols rs g5
    have hk2 : 0 ≤ kd ∧ kd ≤ 255 := by simpa [Lit.wf, IntKind.min, IntKind.max, IntKind.signed, IntKind.bits] using hkd
    have hn : os.length = n := by omega
    have hf := hfar A n c rfl
    refine ⟨⟨kd.toNat, ⟨os, A, c⟩, nn⟩ :: L, by simp [h1], ?_, ?_⟩
    · rw [List.flatten_cons, h2, avs_cons]
      subst hn
      have : ((kd.toNat : Nat) : Int) = kd := by omega
      simp [acs, this]
    · intro x hx
      rcases List.mem_cons.1 hx with rfl | hx
      · exact ⟨by rw [← k2]; exact g4, k3, by show os.length ≤ c; omega, by show kd.toNat ≤ 255; omega, by show os.length ≤ _; omega⟩
      · exact h3 x hx
set_option maxRecDepth 100000 in
theorem open_acts {H : Type} {enc : TypeId × Value → H} {w : World} {base b0 : Nat} {r : Reach} {sp : Nat → Bool} {held : Bool} {v : Value} {d : DataW H} {ps : List MemPlace}
    (hu : Value.okWide Try.prog w r b0 22 v) (h : DataW.Trod enc Try.prog w base sp held 22 v d ps) (hw : ∀ x ∈ d.weights Try.prog 22, x ≤ reachBytes) :
    ∃ (A : Option Addr) (n cap : Nat) (L : List Av), v = .slice A n cap ∧ n ≤ maxLen ∧ L.length = n ∧ Rd w w.heap.size A (avs L) ∧ ∀ x ∈ L, AvIn w w.heap.size x := by
  obtain ⟨a, len, cap, rfl⟩ := okWide_slice Try.underlying22 hu
  have hs := has_of (s := .slice 3 shAct) 7 (by kernel_rfl) h
  obtain ⟨A, n, c, rows, h1, h2, h3, h4, h5, h6⟩ := hs
  have h9 : [Value.slice a len cap] = [.slice A n c] := h1
  obtain ⟨rfl, rfl, rfl⟩ : a = A ∧ len = n ∧ cap = c := by simpa using h9
  have hfar : ∀ x ∈ rows, ∀ A' l' c', x[1]? = some (.slice A' l' c') → l' ≤ 140737488355328 := by
    intro x hx A' l' c' hx1
    obtain ⟨i, hi⟩ := List.getElem?_of_mem hx
    have hil := (List.getElem?_eq_some_iff.1 hi).1
    obtain ⟨fuel, hf⟩ := h
    have hxl := (h6 x hx).1
    rcases DataW.trod_slice Try.underlying22 hf with ⟨e1, _⟩ | ⟨ad, len', cap', elems, rest, k, _, e1, e2, _, _, _, e3, e4, _⟩
    · have e1 : [Value.slice a len cap] = [.slice none 0 0] := e1
      have e5 : len = 0 := by
        have : a = none ∧ len = 0 ∧ cap = 0 := by simpa using e1
        exact this.2.1
      omega
    · have e1 : [Value.slice a len cap] = [.slice (some ad) len' cap'] := e1
      obtain ⟨rfl, rfl, rfl⟩ : a = some ad ∧ len = len' ∧ cap = cap' := by simpa using e1
      have hcell : Try.prog.cellsOf 33 = 3 := by kernel_rfl
      have hi4 := e4 i (by omega)
      rw [hcell, List.getElem?_eq_getElem (by omega)] at hi4
      obtain ⟨row, h7, h8⟩ := Option.bind_eq_some_iff.1 hi4
      obtain ⟨_, g1, g2⟩ := World.cells?_some h7
      -- the row is the one that was read
      have hfl : ∀ (rs : List (List Value)) (i : Nat) (x : List Value), (∀ r ∈ rs, r.length = 3) → rs[i]? = some x → ∀ j v, x[j]? = some v → rs.flatten[i * 3 + j]? = some v := by
        intro rs
        induction rs with
        | nil => intro i x _ hx; simp at hx
        | cons r rs ih =>
          intro i x hl hx j v hv
          have hr := hl r List.mem_cons_self
          rw [List.flatten_cons]
          cases i with
          | zero =>
            obtain rfl : r = x := by simpa using hx
            have hj := (List.getElem?_eq_some_iff.1 hv).1
            rw [List.getElem?_append_left (by omega)]
            simpa using hv
          | succ i =>
            rw [List.getElem?_append_right (by omega), hr, show (i + 1) * 3 + j - 3 = i * 3 + j by omega]
            exact ih i x (fun r hr => hl r (List.mem_cons_of_mem _ hr)) (by simpa using hx) j v hv
      have hc1 : w.cell? (ad.add (i * 3 + 1)) = some (.slice A' l' c') := h5.tail_at (hfl rows i x (fun r hr => (h6 r hr).1) hi 1 _ hx1)
      have hrow : row[1]? = some (.slice A' l' c') := by
        rw [← g2 1 (by decide), addr_add_add]
        exact hc1
      refine act_len h8 (fun z hz => hw z ?_) hrow
      have e2' : d = .slice (elems.map (·.1)) (rest.map (·.1)) := congrArg Prod.fst e2
      rw [e2']
      simp only [DataW.weights, Try.underlying22]
      refine List.mem_cons_of_mem _ (List.mem_append.2 (.inl ?_))
      have hin : ∀ (es : List (DataW H)) (e : DataW H), e ∈ es → ∀ z ∈ e.weights Try.prog 33, z ∈ DataW.weightsAll Try.prog 33 es := by
        intro es
        induction es with
        | nil => intro e he; cases he
        | cons y es ih =>
          intro e he z hz
          unfold DataW.weightsAll
          rcases List.mem_cons.1 he with rfl | he
          · exact List.mem_append.2 (.inl hz)
          · exact List.mem_append.2 (.inr (ih e he z hz))
      exact hin _ _ (List.mem_map.2 ⟨_, List.getElem_mem (by omega), rfl⟩) z hz
  obtain ⟨ls, h7, h8, h10⟩ := rows_avs rows fun r hr => ⟨h6 r hr, hfar r hr⟩
  exact ⟨a, len, cap, ls, rfl, by omega, by omega, by rw [← h8]; exact h5, h10⟩
end Go.Proofs.Ytjjomfpkdbfhdaa

/-
  Layer 9's laws: what they share: puts as an argument, a table behind puts.
-/
import Derived.Test.YtcligeajgbibnaaTbP
namespace Go.Proofs.Ytcligeajgbibnaa
open Go.RowKit Leaf Tbl
open Go.ChangeShapes Go.WideShapes
set_option linter.unusedVariables false

/-- puts as they lie in memory -/
def pls (ts : List Pt) : List Value := ts.flatMap pcs
theorem pls_cons (t : Pt) (ts : List Pt) : pls (t :: ts) = pcs t ++ pls ts := by simp [pls]
theorem pls_at {ts : List Pt} {k j : Nat} {t : Pt} {v : Value} (hk : ts[k]? = some t) (hv : (pcs t)[j]? = some v) : (pls ts)[k * 3 + j]? = some v := by
  induction ts generalizing k with
  | nil => simp at hk
  | cons x ts ih =>
    rw [pls_cons]
    cases k with
    | zero =>
      obtain rfl : x = t := by simpa using hk
      have hj : j < (pcs x).length := (List.getElem?_eq_some_iff.1 hv).1
      rw [Nat.zero_mul, Nat.zero_add, List.getElem?_append_left hj]
      exact hv
    | succ k =>
      have hx : (pcs x).length = 3 := rfl
      rw [List.getElem?_append_right (by omega), hx, show (k + 1) * 3 + j - 3 = k * 3 + j by omega]
      exact ih (by simpa using hk)
theorem put_at {w : World} {B : Nat} {A : Option Addr} {ts : List Pt} {k : Nat} {t : Pt} (h : Rd w B A (pls ts)) (hk : ts[k]? = some t) :
    ∃ ad, A = some ad ∧ ad.block < B ∧ ∀ w' : World, (∀ p : Addr, p.block < B → w'.cell? p = w.cell? p) → w'.cell? (ad.add (k * 3)) = some (.int .i64 t.b) ∧ w'.cell? ⟨(ad.add (k * 3)).block, (ad.add (k * 3)).off + 1, none⟩ = some (.int .i64 t.p) ∧ w'.cell? ⟨(ad.add (k * 3)).block, (ad.add (k * 3)).off + 2, none⟩ = some (.bool t.c) := by
  obtain ⟨ad, rfl, hb, hc⟩ := h.at (pls_at hk (j := 0) (v := .int .i64 t.b) rfl)
  have hf : ∀ j v, 1 ≤ j → (pcs t)[j]? = some v → w.cell? ⟨(ad.add (k * 3)).block, (ad.add (k * 3)).off + j, none⟩ = some v := fun j v hj hv => by
    have e : (⟨(ad.add (k * 3)).block, (ad.add (k * 3)).off + j, none⟩ : Addr) = (ad.add (k * 3)).add j := by
      conv => rhs; unfold Addr.add
      rw [if_neg (by omega)]
      rfl
    rw [e, addr_add_add]
    obtain ⟨ad2, e2, _, h2⟩ := h.at (pls_at hk hv)
    obtain rfl : ad = ad2 := by injection e2
    exact h2
  refine ⟨ad, rfl, hb, fun w' hw => ⟨?_, ?_, ?_⟩⟩
  · rw [hw _ (by rw [addr_add_block]; exact hb)]
    exact hc
  · rw [hw _ (by rw [addr_add_block]; exact hb)]
    exact hf 1 _ (Nat.le_refl 1) rfl
  · rw [hw _ (by rw [addr_add_block]; exact hb)]
    exact hf 2 _ (by omega) rfl
theorem rows_puts {w : World} : ∀ (rows : List (List Value)), (∀ r ∈ rows, r.length = 3 ∧ Has (.pair 1 (.int .i64) (.pair 1 (.int .i64) (.pair 1 .bool .nil))) w r) → ∃ ts : List Pt, ts.length = rows.length ∧ rows.flatten = pls ts
  | [], _ => ⟨[], rfl, rfl⟩
  | r :: rows, h => by
    obtain ⟨ts, h1, h2⟩ := rows_puts rows fun x hx => h x (List.mem_cons_of_mem _ hx)
    obtain ⟨_, _, _, rfl, _, ⟨b, rfl, _⟩, _, _, rfl, _, ⟨p, rfl, _⟩, _, _, rfl, _, ⟨c, rfl⟩, rfl⟩ := h r List.mem_cons_self
    exact ⟨⟨b, p, c⟩ :: ts, by simp [h1], by rw [List.flatten_cons, h2]; rfl⟩
set_option maxRecDepth 100000 in
theorem open_puts {H : Type} {enc : TypeId × Value → H} {w : World} {base b0 : Nat} {r : Reach} {sp : Nat → Bool} {held : Bool} {v : Value} {d : DataW H} {ps : List MemPlace}
    (hu : Value.okWide Try.prog w r b0 22 v) (h : DataW.Trod enc Try.prog w base sp held 22 v d ps) :
    ∃ (A : Option Addr) (n cap : Nat) (ts : List Pt), v = .slice A n cap ∧ n ≤ maxLen ∧ ts.length = n ∧ Rd w w.heap.size A (pls ts) := by
  obtain ⟨a, len, cap, rfl⟩ := okWide_slice Try.underlying22 hu
  have hs := has_of (s := .slice 3 (.pair 1 (.int .i64) (.pair 1 (.int .i64) (.pair 1 .bool .nil)))) 4 (by kernel_rfl) h
  obtain ⟨A, n, c, rows, h1, h2, h3, h4, h5, h6⟩ := hs
  obtain ⟨ts, h7, h8⟩ := rows_puts rows h6
  have h9 : [Value.slice a len cap] = [.slice A n c] := h1
  obtain ⟨rfl, rfl, rfl⟩ : a = A ∧ len = n ∧ cap = c := by simpa using h9
  exact ⟨a, len, cap, ts, rfl, by omega, by omega, by rw [← h8]; exact h5⟩
theorem rows_leaves {w : World} : ∀ (rows : List (List Value)), (∀ r ∈ rows, r.length = 12 ∧ Has (.pair 1 (.int .i64) (.pair 1 (.int .i64) (.pair 10 (.rep 10 1 (.int .i64)) .nil))) w r) → ∃ ls : List Lf, ls.length = rows.length ∧ rows.flatten = lfls ls ∧ ∀ l ∈ ls, In l
  | [], _ => ⟨[], rfl, rfl, fun l h => (List.not_mem_nil h).elim⟩
  | r :: rows, h => by
    obtain ⟨ls, h1, h2, h3⟩ := rows_leaves rows fun x hx => h x (List.mem_cons_of_mem _ hx)
    obtain ⟨_, _, _, rfl, _, ⟨k, rfl, _⟩, _, _, rfl, _, ⟨e, rfl, _⟩, _, _, rfl, _, hd, rfl⟩ := h r List.mem_cons_self
    obtain ⟨ws, g1, rfl, g3⟩ := has_ints hd
    refine ⟨⟨k, e, ws⟩ :: ls, by simp [h1], ?_, ?_⟩
    · rw [List.flatten_cons, h2, lfls_cons]
      simp [lcs, is]
    · intro l hl
      rcases List.mem_cons.1 hl with rfl | hl
      · exact g1
      · exact h3 l hl
set_option maxRecDepth 100000 in
theorem open_leaves {H : Type} {enc : TypeId × Value → H} {w : World} {base b0 : Nat} {r : Reach} {sp : Nat → Bool} {held : Bool} {v : Value} {d : DataW H} {ps : List MemPlace}
    (hu : Value.okWide Try.prog w r b0 37 v) (h : DataW.Trod enc Try.prog w base sp held 37 v d ps) :
    ∃ (A : Option Addr) (n cap : Nat) (ls : List Lf), v = .slice A n cap ∧ n ≤ maxLen ∧ ls.length = n ∧ (∀ l ∈ ls, In l) ∧ Rd w w.heap.size A (lfls ls) := by
  obtain ⟨a, len, cap, rfl⟩ := okWide_slice Try.underlying37 hu
  have hs := has_of (s := .slice 12 (.pair 1 (.int .i64) (.pair 1 (.int .i64) (.pair 10 (.rep 10 1 (.int .i64)) .nil)))) 5 (by kernel_rfl) h
  obtain ⟨A, n, c, rows, h1, h2, h3, h4, h5, h6⟩ := hs
  obtain ⟨ls, h7, h8, h10⟩ := rows_leaves rows h6
  have h9 : [Value.slice a len cap] = [.slice A n c] := h1
  obtain ⟨rfl, rfl, rfl⟩ : a = A ∧ len = n ∧ cap = c := by simpa using h9
  exact ⟨a, len, cap, ls, rfl, by omega, by omega, h10, by rw [← h8]; exact h5⟩

theorem wf_u8t {x : Int} (h : (Lit.int .u8 x).wf = true) : 0 ≤ x ∧ x ≤ 255 := by
  simpa [Lit.wf, IntKind.min, IntKind.max, IntKind.signed, IntKind.bits] using h
namespace Tbl
def stT (n : Nat) (s : List Int × List Bool) (t : Pt) : List Int × List Bool := (putY n s.1 t.b t.p, putD n s.1 s.2 t.b t.p)
def rnT (n : Nat) (ts : List Pt) : List Int × List Bool := ts.foldl (stT n) (List.replicate (10 * pages n) 0, List.replicate (pages n) false)
theorem rnT_nil (n : Nat) : rnT n [] = (List.replicate (10 * pages n) 0, List.replicate (pages n) false) := rfl
theorem rnT_snoc {n : Nat} {ts : List Pt} {k : Nat} {t : Pt} (h : ts[k]? = some t) : rnT n (ts.take (k + 1)) = stT n (rnT n (ts.take k)) t := by
  obtain ⟨hk, rfl⟩ := List.getElem?_eq_some_iff.1 h
  unfold rnT
  rw [List.take_succ_eq_append_getElem hk, List.foldl_append]
  rfl
/-- behind the last block there is nothing -/
def TZ (n : Nat) (Y : List Int) : Prop := ∀ k, n ≤ k → Y.getD k 0 = 0
theorem TZ.zero (n m : Nat) : TZ n (List.replicate m 0) := by
  intro k _
  rw [List.getD_eq_getElem?_getD, List.getElem?_replicate]
  split <;> rfl
theorem TZ.put {n : Nat} {Y : List Int} (h : TZ n Y) (b p : Int) : TZ n (putY n Y b p) := by
  intro k hk
  unfold putY
  by_cases hb : hasB n b = true
  · obtain ⟨j, rfl, hj⟩ := hasB_iff.1 hb
    rw [if_pos hb, Int.toNat_natCast, List.getD_eq_getElem?_getD, List.getElem?_set_ne (by omega), ← List.getD_eq_getElem?_getD]
    exact h k hk
  · rw [if_neg hb]
    exact h k hk
theorem rnT_tz (n : Nat) (ts : List Pt) : TZ n (rnT n ts).1 := by
  have : ∀ (ts : List Pt) (s : List Int × List Bool), TZ n s.1 → TZ n (ts.foldl (stT n) s).1 := by
    intro ts
    induction ts with
    | nil => exact fun s h => h
    | cons t ts ih => exact fun s h => ih _ (h.put _ _)
  exact this ts _ (TZ.zero _ _)
theorem cntT_tz {n : Nat} {Y : List Int} (h : TZ n Y) : ∀ m, n ≤ m → cntT Y m = cntT Y n
  | 0, hm => by rw [show n = 0 by omega]
  | m + 1, hm => by
    rcases Nat.lt_or_ge n (m + 1) with h1 | h1
    · rw [cntT_no (h m (by omega)), cntT_tz h m (by omega)]
    · rw [show n = m + 1 by omega]
end Tbl
/-- what the laws hold of memory: nothing that came in has changed; the table -/
def LSt (w w' : World) (d g h n : Nat) (Y : List Int) (D : List Bool) : Prop := Below w.heap.size w w' ∧ TbIs w' d g h n Y D
section
variable {w w1 w2 : World} {d g h n : Nat} {Y : List Int} {D : List Bool}
theorem LSt.drew (l : LSt w w1 d g h n Y D) : LSt w w1.drew d g h n Y D := ⟨l.1.drew, l.2.drew⟩
theorem LSt.drewN (l : LSt w w1 d g h n Y D) (q : Nat) : LSt w (w1.drewN q) d g h n Y D := ⟨below_draws l.1 q, ⟨l.2.tb, l.2.lv, l.2.dt, l.2.hn, l.2.hy, l.2.hd⟩⟩
theorem LSt.on (l : LSt w w1 d g h n Y D) (hb : Below w1.heap.size w1 w2) : LSt w w2 d g h n Y D := ⟨l.1.trans (hb.mono l.1.size), l.2.on hb⟩
theorem LSt.put (l : LSt w w1 d g h n Y D) {Y' : List Int} {D' : List Bool} (t : TbIs w2 d g h n Y' D') (f : Fr (TbT g h) w1 w2) (hg : w.heap.size ≤ g) (hh : w.heap.size ≤ h) : LSt w w2 d g h n Y' D' :=
  ⟨l.1.trans (f.below l.1.size (fun k hk hT => by rcases hT with rfl | rfl <;> omega)), t⟩
end
end Go.Proofs.Ytcligeajgbibnaa

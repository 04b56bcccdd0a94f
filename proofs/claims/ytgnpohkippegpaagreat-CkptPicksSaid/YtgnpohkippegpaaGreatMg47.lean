/-
  TbP TbQ TbV
-/
import Derived.Test.YtgnpohkippegpaaGreatMg46
/-
  'awake' of layer 9 answers true.
-/
namespace Go.Proofs.YtgnpohkippegpaaGreat
open Go.RowKit Leaf Tbl
set_option linter.unusedVariables false

abbrev ysA : List Int := [0, 0, 0, 0, 0, 0, 0, 0, 0, 0, 0, 5, 0, 0, 0, 0, 0, 0, 0, 0]
theorem awA1 : getT 12 (List.replicate (10 * pages 12) 0) 11 = 0 ∧ putY 12 (List.replicate (10 * pages 12) 0) 11 5 = ysA ∧ putD 12 (List.replicate (10 * pages 12) 0) (List.replicate (pages 12) false) 11 5 = [false, true] ∧ pages 12 = 2 := by decide
theorem awA2 : getT 12 ysA 11 = 5 ∧ cntT ysA 12 = 1 ∧ idxs [false, true] 2 = [1] := by decide
theorem awA3 : (lfls (lfsOf ysA 3 2))[12]? = some (.int .i64 3) ∧ (lfls (lfsOf ysA 3 2))[15]? = some (.int .i64 5) := ⟨rfl, rfl⟩
end Go.Proofs.YtgnpohkippegpaaGreat

/-
  Layer 9's laws: what they share: puts as an argument, a table behind puts.
-/
namespace Go.Proofs.YtgnpohkippegpaaGreat
open Go.RowKit Leaf Tbl
open Go.ChangeShapes Go.WideShapes
set_option linter.unusedVariables false

/-- puts as they lie in memory -/
def pls (ts : List Pt) : List Value := ts.flatMap pcs
theorem pls_cons (t : Pt) (ts : List Pt) : pls (t :: ts) = pcs t ++ pls ts := by simp [pls]
theorem pls_at {ts : List Pt} {k j : Nat} {t : Pt} {v : Value} (hk : ts[k]? = some t) (hv : (pcs t)[j]? = some v) : (pls ts)[k * 3 + j]? = some v := by
  induction ts generalizing k with
  | nil => simp at hk
  | cons x ts ih =>
    rw [pls_cons]
    cases k with
    | zero =>
      obtain rfl : x = t := by simpa using hk
      have hj : j < (pcs x).length := (List.getElem?_eq_some_iff.1 hv).1
      rw [Nat.zero_mul, Nat.zero_add, List.getElem?_append_left hj]
      exact hv
    | succ k =>
      have hx : (pcs x).length = 3 := rfl
      rw [List.getElem?_append_right (by omega), hx, show (k + 1) * 3 + j - 3 = k * 3 + j by omega]
      exact ih (by simpa using hk)
theorem put_at {w : World} {B : Nat} {A : Option Addr} {ts : List Pt} {k : Nat} {t : Pt} (h : Rd w B A (pls ts)) (hk : ts[k]? = some t) :
    ∃ ad, A = some ad ∧ ad.block < B ∧ ∀ w' : World, (∀ p : Addr, p.block < B → w'.cell? p = w.cell? p) → w'.cell? (ad.add (k * 3)) = some (.int .i64 t.b) ∧ w'.cell? ⟨(ad.add (k * 3)).block, (ad.add (k * 3)).off + 1, none⟩ = some (.int .i64 t.p) ∧ w'.cell? ⟨(ad.add (k * 3)).block, (ad.add (k * 3)).off + 2, none⟩ = some (.bool t.c) := by
  obtain ⟨ad, rfl, hb, hc⟩ := h.at (pls_at hk (j := 0) (v := .int .i64 t.b) rfl)
  have hf : ∀ j v, 1 ≤ j → (pcs t)[j]? = some v → w.cell? ⟨(ad.add (k * 3)).block, (ad.add (k * 3)).off + j, none⟩ = some v := fun j v hj hv => by
    have e : (⟨(ad.add (k * 3)).block, (ad.add (k * 3)).off + j, none⟩ : Addr) = (ad.add (k * 3)).add j := by
      conv => rhs; unfold Addr.add
      rw [if_neg (by omega)]
      rfl
    rw [e, addr_add_add]
    obtain ⟨ad2, e2, _, h2⟩ := h.at (pls_at hk hv)
    obtain rfl : ad = ad2 := by injection e2
    exact h2
  refine ⟨ad, rfl, hb, fun w' hw => ⟨?_, ?_, ?_⟩⟩
  · rw [hw _ (by rw [addr_add_block]; exact hb)]
    exact hc
  · rw [hw _ (by rw [addr_add_block]; exact hb)]
    exact hf 1 _ (Nat.le_refl 1) rfl
  · rw [hw _ (by rw [addr_add_block]; exact hb)]
    exact hf 2 _ (by omega) rfl
theorem rows_puts {w : World} : ∀ (rows : List (List Value)), (∀ r ∈ rows, r.length = 3 ∧ Has (.pair 1 (.int .i64) (.pair 1 (.int .i64) (.pair 1 .bool .nil))) w r) → ∃ ts : List Pt, ts.length = rows.length ∧ rows.flatten = pls ts
  | [], _ => ⟨[], rfl, rfl⟩
  | r :: rows, h => by
    obtain ⟨ts, h1, h2⟩ := rows_puts rows fun x hx => h x (List.mem_cons_of_mem _ hx)
    obtain ⟨_, _, _, rfl, _, ⟨b, rfl, _⟩, _, _, rfl, _, ⟨p, rfl, _⟩, _, _, rfl, _, ⟨c, rfl⟩, rfl⟩ := h r List.mem_cons_self
    exact ⟨⟨b, p, c⟩ :: ts, by simp [h1], by rw [List.flatten_cons, h2]; rfl⟩
theorem rows_leaves {w : World} : ∀ (rows : List (List Value)), (∀ r ∈ rows, r.length = 12 ∧ Has (.pair 1 (.int .i64) (.pair 1 (.int .i64) (.pair 10 (.rep 10 1 (.int .i64)) .nil))) w r) → ∃ ls : List Lf, ls.length = rows.length ∧ rows.flatten = lfls ls ∧ ∀ l ∈ ls, In l
  | [], _ => ⟨[], rfl, rfl, fun l h => (List.not_mem_nil h).elim⟩
  | r :: rows, h => by
    obtain ⟨ls, h1, h2, h3⟩ := rows_leaves rows fun x hx => h x (List.mem_cons_of_mem _ hx)
    obtain ⟨_, _, _, rfl, _, ⟨k, rfl, _⟩, _, _, rfl, _, ⟨e, rfl, _⟩, _, _, rfl, _, hd, rfl⟩ := h r List.mem_cons_self
    obtain ⟨ws, g1, rfl, g3⟩ := has_ints hd
    refine ⟨⟨k, e, ws⟩ :: ls, by simp [h1], ?_, ?_⟩
    · rw [List.flatten_cons, h2, lfls_cons]
      simp [lcs, is]
    · intro l hl
      rcases List.mem_cons.1 hl with rfl | hl
      · exact g1
      · exact h3 l hl
set_option maxRecDepth 100000 in
theorem open_leaves {H : Type} {enc : TypeId × Value → H} {w : World} {base b0 : Nat} {r : Reach} {sp : Nat → Bool} {held : Bool} {v : Value} {d : DataW H} {ps : List MemPlace}
    (hu : Value.okWide Tryz.prog w r b0 83 v) (h : DataW.Trod enc Tryz.prog w base sp held 83 v d ps) :
    ∃ (A : Option Addr) (n cap : Nat) (ls : List Lf), v = .slice A n cap ∧ n ≤ maxLen ∧ ls.length = n ∧ (∀ l ∈ ls, In l) ∧ Rd w w.heap.size A (lfls ls) := by
  obtain ⟨a, len, cap, rfl⟩ := okWide_slice Tryz.underlying83 hu
  have hs := has_of (s := .slice 12 (.pair 1 (.int .i64) (.pair 1 (.int .i64) (.pair 10 (.rep 10 1 (.int .i64)) .nil)))) 5 (by kernel_rfl) h
  obtain ⟨A, n, c, rows, h1, h2, h3, h4, h5, h6⟩ := hs
  obtain ⟨ls, h7, h8, h10⟩ := rows_leaves rows h6
  have h9 : [Value.slice a len cap] = [.slice A n c] := h1
  obtain ⟨rfl, rfl, rfl⟩ : a = A ∧ len = n ∧ cap = c := by simpa using h9
  exact ⟨a, len, cap, ls, rfl, by omega, by omega, h10, by rw [← h8]; exact h5⟩

theorem wf_u8t {x : Int} (h : (Lit.int .u8 x).wf = true) : 0 ≤ x ∧ x ≤ 255 := by
  simpa [Lit.wf, IntKind.min, IntKind.max, IntKind.signed, IntKind.bits] using h
namespace Tbl
def stT (n : Nat) (s : List Int × List Bool) (t : Pt) : List Int × List Bool := (putY n s.1 t.b t.p, putD n s.1 s.2 t.b t.p)
def rnT (n : Nat) (ts : List Pt) : List Int × List Bool := ts.foldl (stT n) (List.replicate (10 * pages n) 0, List.replicate (pages n) false)
theorem rnT_nil (n : Nat) : rnT n [] = (List.replicate (10 * pages n) 0, List.replicate (pages n) false) := rfl
theorem rnT_snoc {n : Nat} {ts : List Pt} {k : Nat} {t : Pt} (h : ts[k]? = some t) : rnT n (ts.take (k + 1)) = stT n (rnT n (ts.take k)) t := by
  obtain ⟨hk, rfl⟩ := List.getElem?_eq_some_iff.1 h
  unfold rnT
  rw [List.take_succ_eq_append_getElem hk, List.foldl_append]
  rfl
/-- behind the last block there is nothing -/
def TZ (n : Nat) (Y : List Int) : Prop := ∀ k, n ≤ k → Y.getD k 0 = 0
theorem TZ.zero (n m : Nat) : TZ n (List.replicate m 0) := by
  intro k _
  rw [List.getD_eq_getElem?_getD, List.getElem?_replicate]
  split <;> rfl
theorem TZ.put {n : Nat} {Y : List Int} (h : TZ n Y) (b p : Int) : TZ n (putY n Y b p) := by
  intro k hk
  unfold putY
  by_cases hb : hasB n b = true
  · obtain ⟨j, rfl, hj⟩ := hasB_iff.1 hb
    rw [if_pos hb, Int.toNat_natCast, List.getD_eq_getElem?_getD, List.getElem?_set_ne (by omega), ← List.getD_eq_getElem?_getD]
    exact h k hk
  · rw [if_neg hb]
    exact h k hk
theorem rnT_tz (n : Nat) (ts : List Pt) : TZ n (rnT n ts).1 := by
  have : ∀ (ts : List Pt) (s : List Int × List Bool), TZ n s.1 → TZ n (ts.foldl (stT n) s).1 := by
    intro ts
    induction ts with
    | nil => exact fun s h => h
    | cons t ts ih => exact fun s h => ih _ (h.put _ _)
  exact this ts _ (TZ.zero _ _)
theorem cntT_tz {n : Nat} {Y : List Int} (h : TZ n Y) : ∀ m, n ≤ m → cntT Y m = cntT Y n
  | 0, hm => by rw [show n = 0 by omega]
  | m + 1, hm => by
    rcases Nat.lt_or_ge n (m + 1) with h1 | h1
    · rw [cntT_no (h m (by omega)), cntT_tz h m (by omega)]
    · rw [show n = m + 1 by omega]
end Tbl
/-- what the laws hold of memory: nothing that came in has changed; the table -/
def LSt (w w' : World) (d g h n : Nat) (Y : List Int) (D : List Bool) : Prop := Below w.heap.size w w' ∧ TbIs w' d g h n Y D
section
variable {w w1 w2 : World} {d g h n : Nat} {Y : List Int} {D : List Bool}
theorem LSt.drew (l : LSt w w1 d g h n Y D) : LSt w w1.drew d g h n Y D := ⟨l.1.drew, l.2.drew⟩
theorem LSt.drewN (l : LSt w w1 d g h n Y D) (q : Nat) : LSt w (w1.drewN q) d g h n Y D := ⟨below_draws l.1 q, ⟨l.2.tb, l.2.lv, l.2.dt, l.2.hn, l.2.hy, l.2.hd⟩⟩
theorem LSt.on (l : LSt w w1 d g h n Y D) (hb : Below w1.heap.size w1 w2) : LSt w w2 d g h n Y D := ⟨l.1.trans (hb.mono l.1.size), l.2.on hb⟩
theorem LSt.put (l : LSt w w1 d g h n Y D) {Y' : List Int} {D' : List Bool} (t : TbIs w2 d g h n Y' D') (f : Fr (TbT g h) w1 w2) (hg : w.heap.size ≤ g) (hh : w.heap.size ≤ h) : LSt w w2 d g h n Y' D' :=
  ⟨l.1.trans (f.below l.1.size (fun k hk hT => by rcases hT with rfl | rfl <;> omega)), t⟩
end
end Go.Proofs.YtgnpohkippegpaaGreat

/-
  Package table, plain mathematics: the answer's Of and the program's are one.
-/
namespace Go.Proofs.YtgnpohkippegpaaGreat
open Go.RowKit Leaf Tbl
set_option linter.unusedVariables false

namespace Tbl
theorem nodup_map_inj {α β : Type} {f : α → β} : ∀ {ls : List α} {a b : α}, (ls.map f).Nodup → a ∈ ls → b ∈ ls → f a = f b → a = b
  | [], _, _, _, h, _, _ => (List.not_mem_nil h).elim
  | x :: ls, a, b, hn, ha, hb, e => by
    rw [List.map_cons, List.nodup_cons] at hn
    rcases List.mem_cons.1 ha with rfl | ha1 <;> rcases List.mem_cons.1 hb with rfl | hb1
    · rfl
    · exact absurd (List.mem_map.2 ⟨b, hb1, e.symm⟩) hn.1
    · exact absurd (List.mem_map.2 ⟨a, ha1, e⟩) hn.1
    · exact nodup_map_inj hn.2 ha1 hb1 e
/-- the found leaf is one of them, of that index -/
theorem lfAt_mem {ls : List Lf} {i : Nat} (h : ¬ fndT ls i ls.length = -1) : lfAt ls i ∈ ls ∧ (lfAt ls i).index = (i : Int) := by
  rcases fnd_range ls i ls.length with h2 | ⟨k, h1, h2, h3⟩
  · exact absurd h2 h
  · unfold lfAt
    rw [h2, Int.toNat_natCast]
    refine ⟨?_, h3⟩
    rw [List.getD_eq_getElem?_getD, List.getElem?_eq_getElem h1]
    exact List.getElem_mem h1
theorem fnd_mem {ls : List Lf} {i : Nat} {l : Lf} (h : l ∈ ls) (hi : l.index = (i : Int)) : ¬ fndT ls i ls.length = -1 := by
  obtain ⟨k, hk, rfl⟩ := List.getElem_of_mem h
  refine fnd_has (k := k) hk ?_
  rw [List.getD_eq_getElem?_getD, List.getElem?_eq_getElem hk]
  exact hi
theorem yT_get {ls : List Lf} (h : ∀ l ∈ ls, In l) {P q j : Nat} (hq : q < P) (hj : j < 10) : (yT ls P)[q * 10 + j]? = (lfAt ls q).places[j]? := by
  induction P with
  | zero => omega
  | succ P ih =>
    have h1 := yT_length h P
    rw [yT_succ]
    rcases Nat.lt_or_ge q P with h2 | h2
    · rw [List.getElem?_append_left (by omega)]
      exact ih h2
    · obtain rfl : q = P := by omega
      rw [List.getElem?_append_right (by omega), h1]
      congr 1
      omega
theorem fits_row {n : Nat} {l : Lf} {q : Nat} (h : Fits n l) (hq : l.index = (q : Int)) : RowOk n q l := by
  intro j hj
  have := h.2.2 j hj
  rwa [hq, Int.toNat_natCast] at this
theorem of_rof {n : Nat} {ls : List Lf} {ys : List Int} (hin : ∀ l ∈ ls, In l) (h : ofT n ls = some ys) : RofOk n ls ∧ yT ls (pages n) = ys ∧ ys.length = 10 * pages n ∧ TZ n ys ∧ ∀ k, 0 ≤ ys.getD k 0 := by
  obtain ⟨hl, hf, hn⟩ := of_some h
  obtain ⟨ys', h1, h2, h3, h4⟩ := of_takes hl (fun l hm => ⟨hin l hm, hf l hm⟩) hn
  obtain rfl : ys = ys' := by rw [h] at h1; injection h1
  have hat : ∀ q, q < pages n → ¬ fndT ls q ls.length = -1 ∧ lfAt ls q ∈ ls ∧ (lfAt ls q).index = (q : Int) := fun q hq => by
    obtain ⟨l, hm, e⟩ := h4 q hq
    have hi : l.index = (q : Int) := by
      have := (hf l hm).1
      unfold ix at e
      omega
    have hfn := fnd_mem hm hi
    exact ⟨hfn, lfAt_mem hfn⟩
  have hget : ∀ q j, q < pages n → j < 10 → ys[q * 10 + j]? = (lfAt ls q).places[j]? := fun q j hq hj => by
    obtain ⟨_, hm, hi⟩ := hat q hq
    have := h3 _ hm j hj
    unfold ix at this
    rwa [hi, Int.toNat_natCast] at this
  have hpl : ∀ q j, q < pages n → j < 10 → okP n q j (ys.getD (q * 10 + j) 0) := fun q j hq hj => by
    obtain ⟨_, hm, hi⟩ := hat q hq
    have := fits_row (hf _ hm) hi j hj
    rw [List.getD_eq_getElem?_getD, hget q j hq hj, ← List.getD_eq_getElem?_getD]
    exact this
  refine ⟨⟨hl, fun q hq => ?_⟩, ?_, h2, fun k hk => ?_, fun k => ?_⟩
  · obtain ⟨hfn, hm, hi⟩ := hat q hq
    exact ⟨hfn, fits_row (hf _ hm) hi⟩
  · apply List.ext_getElem?
    intro k
    have hyl := yT_length hin (pages n)
    by_cases hk : k < 10 * pages n
    · have e : k = k / 10 * 10 + k % 10 := by omega
      rw [e, yT_get hin (by omega) (Nat.mod_lt _ (by decide)), hget _ _ (by omega) (Nat.mod_lt _ (by decide))]
    · rw [List.getElem?_eq_none (by omega), List.getElem?_eq_none (by omega)]
  · by_cases hk2 : k < 10 * pages n
    · have e : k = k / 10 * 10 + k % 10 := by omega
      have := hpl (k / 10) (k % 10) (by omega) (Nat.mod_lt _ (by decide))
      rw [← e] at this
      obtain ⟨p0, p1⟩ := this
      rw [← e] at p1
      generalize ys.getD k 0 = x at *
      omega
    · rw [List.getD_eq_getElem?_getD, List.getElem?_eq_none (by omega)]
      rfl
  · by_cases hk2 : k < 10 * pages n
    · have e : k = k / 10 * 10 + k % 10 := by omega
      have := (hpl (k / 10) (k % 10) (by omega) (Nat.mod_lt _ (by decide))).1
      rwa [← e] at this
    · rw [List.getD_eq_getElem?_getD, List.getElem?_eq_none (by omega)]
      exact Int.le_refl 0
theorem of_none {n : Nat} {ls : List Lf} (hin : ∀ l ∈ ls, In l) (h : ofT n ls = none) : ¬ RofOk n ls := by
  rintro ⟨hl, hr⟩
  have hp := perm_range (pages n) (ls.map ix) (by rw [List.length_map]; exact hl) (fun i hi => by
    obtain ⟨hm, he⟩ := lfAt_mem (hr i hi).1
    refine List.mem_map.2 ⟨_, hm, ?_⟩
    unfold ix
    rw [he, Int.toNat_natCast])
  have hn : (ls.map ix).Nodup := hp.nodup_iff.2 List.nodup_range
  have hf : ∀ l ∈ ls, In l ∧ Fits n l := fun l hm => by
    have hlt : ix l < pages n := by
      have := hp.mem_iff.1 (List.mem_map.2 ⟨l, hm, rfl⟩)
      simpa using this
    obtain ⟨hfn, hrow⟩ := hr (ix l) hlt
    obtain ⟨hm2, he⟩ := lfAt_mem hfn
    have hel : lfAt ls (ix l) = l := nodup_map_inj hn hm2 hm (by
      show (lfAt ls (ix l)).index.toNat = ix l
      rw [he, Int.toNat_natCast])
    rw [hel] at he hrow
    refine ⟨hin l hm, by omega, by omega, fun j hj => ?_⟩
    have := hrow j hj
    rwa [show l.index.toNat = ix l from rfl]
  obtain ⟨ys, h1, _⟩ := of_takes hl hf hn
  rw [h] at h1
  cases h1
theorem padT_back {n : Nat} {ys : List Int} (hl : ys.length = 10 * pages n) (hz : TZ n ys) : padT (ys.take n) = ys := by
  have hup := pages_up n
  have ht : (ys.take n).length = n := by rw [List.length_take]; omega
  apply List.ext_getElem?
  intro k
  by_cases h1 : k < n
  · rw [padT_low (by omega), List.getElem?_take, if_pos h1]
  · by_cases h2 : k < 10 * pages n
    · rw [padT_high (by omega) (by rw [ht]; exact h2)]
      have := hz k (by omega)
      rw [List.getD_eq_getElem?_getD] at this
      rw [List.getElem?_eq_getElem (by omega)] at this ⊢
      simpa using this.symm
    · rw [List.getElem?_eq_none (by rw [padT_length, ht]; omega), List.getElem?_eq_none (by omega)]
theorem idxs_none {ds : List Bool} (h : ∀ k, ds.getD k false = false) : ∀ m, idxs ds m = []
  | 0 => rfl
  | m + 1 => by rw [idxs_no (h m), idxs_none h m]
theorem idxs_clean (m k : Nat) : idxs (List.replicate m false) k = [] := idxs_none (fun i => by
  rw [List.getD_eq_getElem?_getD, List.getElem?_replicate]
  split <;> rfl) k
end Tbl
end Go.Proofs.YtgnpohkippegpaaGreat

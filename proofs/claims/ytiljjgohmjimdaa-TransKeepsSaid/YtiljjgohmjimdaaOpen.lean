/-
  How an argument of whatever plain type (numbers, truths, strings, arrays, structs, slices of these) lies in memory, told by the type's shape. Nothing here speaks of one program.
-/
import Derived.Test.YtiljjgohmjimdaaMem
import Derived.ChangeArms
import Derived.ChangeReads
import Derived.DataReads
import Derived.WideShapes
namespace Go.Proofs.Ytiljjgohmjimdaa
open Go.RowKit

/-- a plain type's shape: 'pair n a b': n cells of a, then b; 'rep n c s': n pieces of c cells; 'slice c s': elements of c cells -/
inductive Sh where
  | int (k : IntKind)
  | bool
  | str
  | nil
  | pair (n : Nat) (a b : Sh)
  | rep (n c : Nat) (s : Sh)
  | slice (c : Nat) (s : Sh)

/-- 'Has s w cs': the cells cs are of shape s in w -/
def Has : Sh → World → List Value → Prop
  | .int k, _, cs => ∃ n, cs = [.int k n] ∧ (Lit.int k n).wf = true
  | .bool, _, cs => ∃ b, cs = [.bool b]
  | .str, _, cs => ∃ s, cs = [.string s] ∧ s.size ≤ maxLen
  | .nil, _, cs => cs = []
  | .pair n a b, w, cs => ∃ xs ys, cs = xs ++ ys ∧ xs.length = n ∧ Has a w xs ∧ Has b w ys
  | .rep n c s, w, cs => ∃ rows : List (List Value), rows.length = n ∧ cs = rows.flatten ∧ ∀ r ∈ rows, r.length = c ∧ Has s w r
  | .slice c s, w, cs => ∃ (A : Option Addr) (len cap : Nat) (rows : List (List Value)), cs = [.slice A len cap] ∧ len ≤ cap ∧ cap ≤ maxLen ∧ rows.length = len ∧ Rd w w.heap.size A rows.flatten ∧ ∀ r ∈ rows, r.length = c ∧ Has s w r

section
variable (P : Program)
def fieldsOf (r : TypeId → Option Sh) (all : Nat) : Nat → List Field → Option Sh
  | off, [] => if off = all then some .nil else none
  | off, f :: fs => if f.offset = off then (match r f.type, fieldsOf r all (off + P.cellsOf f.type) fs with | some a, some b => some (.pair (P.cellsOf f.type) a b) | _, _ => none) else none
def shapeOf : Nat → TypeId → Option Sh
  | 0, _ => none
  | n + 1, t => match P.underlying t with
    | some .bool => some .bool
    | some (.int k) => some (.int k)
    | some .string => some .str
    | some (.slice e) => if 0 < P.cellsOf e then (shapeOf n e).map (.slice (P.cellsOf e)) else none
    | some (.array m e) => if P.cellsOf t = m * P.cellsOf e then (shapeOf n e).map (.rep m (P.cellsOf e)) else none
    | some (.struct fs) => fieldsOf P (shapeOf n) (P.cellsOf t) 0 fs.toList
    | _ => none
end

theorem chunks_flatten {α : Type} (cs : List α) (c : Nat) : ∀ n : Nat, ((List.range n).map fun i => (cs.drop (i * c)).take c).flatten = cs.take (n * c)
  | 0 => by simp
  | n + 1 => by
    rw [List.range_succ, List.map_append, List.flatten_append, chunks_flatten cs c n, Nat.succ_mul, List.take_add]
    simp

theorem addr_add_add (a : Addr) (i j : Nat) : (a.add i).add j = a.add (i + j) := by
  unfold Addr.add
  by_cases hi : i = 0 <;> by_cases hj : j = 0 <;> simp [hi, hj, Nat.add_assoc]

section
variable {H : Type} {enc : TypeId × Value → H} {P : Program} {w : World} {base : Nat} {sp : Nat → Bool} {held : Bool}

theorem trod_array {t e : TypeId} {n m : Nat} {cs : List Value} {x : DataW H × List MemPlace} (ht : P.underlying t = some (.array n e)) (h : DataW.trod enc P w base sp held m t cs = some x) :
    ∃ k, m = k + 1 ∧ cs.length = P.cellsOf t ∧ ∀ i, i < n → ∃ y, DataW.trod enc P w base sp held k e ((cs.drop (i * P.cellsOf e)).take (P.cellsOf e)) = some y := by
  cases m with
  | zero => simp [DataW.trod] at h
  | succ k =>
    rw [DataW.trod_step] at h
    unfold DataW.trodStep at h
    simp only [ht] at h
    by_cases hl : cs.length = P.cellsOf t
    · rw [if_pos hl] at h
      simp only [Option.map_eq_some_iff] at h
      obtain ⟨ys, hy, _⟩ := h
      refine ⟨k, rfl, hl, fun i hi => ?_⟩
      have hn : ys.length = n := by simpa using mapM_some_length hy
      exact ⟨_, (mapM_some_get hy i i (by simp [hi])).trans (List.getElem?_eq_getElem (by omega))⟩
    · rw [if_neg hl] at h
      cases h

theorem fieldsOf_le {r : TypeId → Option Sh} {all : Nat} : ∀ {fs : List Field} {off : Nat} {s : Sh}, fieldsOf P r all off fs = some s → off ≤ all
  | [], off, s, h => by
    unfold fieldsOf at h
    split at h
    · omega
    · cases h
  | f :: fs, off, s, h => by
    unfold fieldsOf at h
    split at h
    · split at h
      · rename_i hb
        have := fieldsOf_le hb
        omega
      · cases h
    · cases h

theorem fieldsOf_has {r : TypeId → Option Sh} {all k : Nat} {cs : List Value} (hl : cs.length = all) (hr : ∀ t s cs y, r t = some s → DataW.trod enc P w base sp held k t cs = some y → Has s w cs) :
    ∀ {fs : List Field} {off : Nat} {s : Sh}, fieldsOf P r all off fs = some s → (∀ f ∈ fs, ∃ y, DataW.trod enc P w base sp held k f.type ((cs.drop f.offset).take (P.cellsOf f.type)) = some y) → Has s w (cs.drop off)
  | [], off, s, h, _ => by
    unfold fieldsOf at h
    split at h
    · rename_i e
      injection h with h
      subst h
      subst e
      show cs.drop off = []
      rw [← hl, List.drop_length]
    · cases h
  | f :: fs, off, s, h, ht => by
    unfold fieldsOf at h
    split at h
    · rename_i e
      split at h
      · rename_i a b ha hb
        injection h with h
        subst h
        have hle := fieldsOf_le hb
        obtain ⟨y, hy⟩ := ht f List.mem_cons_self
        rw [e] at hy
        refine ⟨(cs.drop off).take (P.cellsOf f.type), cs.drop (off + P.cellsOf f.type), ?_, by simp; omega, hr _ _ _ _ ha hy, fieldsOf_has hl hr hb fun g hg => ht g (List.mem_cons_of_mem _ hg)⟩
        rw [← List.drop_drop, List.take_append_drop]
      · cases h
    · cases h

theorem open_sh : ∀ (n : Nat) {t : TypeId} {s : Sh} {m : Nat} {cs : List Value} {x : DataW H × List MemPlace}, shapeOf P n t = some s → DataW.trod enc P w base sp held m t cs = some x → Has s w cs
  | 0, t, s, m, cs, x, h, _ => by simp [shapeOf] at h
  | n + 1, t, s, m, cs, x, h, hd => by
    unfold shapeOf at h
    split at h
    · rename_i ht
      injection h with h
      subst h
      obtain ⟨b, hb, _⟩ := DataW.trod_bool ht hd
      exact ⟨b, hb⟩
    · rename_i k ht
      injection h with h
      subst h
      obtain ⟨q, hq, _, hw⟩ := DataW.trod_int ht hd
      exact ⟨q, hq, hw⟩
    · rename_i ht
      injection h with h
      subst h
      obtain ⟨q, hq, _, hw⟩ := DataW.trod_string ht hd
      exact ⟨q, hq, hw⟩
    · rename_i e ht
      split at h
      · rename_i hc0
        obtain ⟨s', hs', rfl⟩ := Option.map_eq_some_iff.1 h
        rcases DataW.trod_slice ht hd with ⟨rfl, _⟩ | ⟨a, len, cap, elems, rest, k, rfl, rfl, _, _, h1, h2, h3, h4, _⟩
        · exact ⟨none, 0, 0, [], rfl, Nat.le_refl _, Nat.zero_le _, rfl, Rd.empty, by simp⟩
        · generalize hc : P.cellsOf e = c at *
          have hrow : ∀ i, i < len → ∃ row y, w.cells? base (a.add (i * c)) c = some row ∧ DataW.trod enc P w base sp held k e row = some y := by
            intro i hi
            have h5 := h4 i hi
            rw [List.getElem?_eq_getElem (by omega)] at h5
            obtain ⟨row, h6, h7⟩ := Option.bind_eq_some_iff.1 h5
            exact ⟨row, _, h6, h7⟩
          have hcell : ∀ j, j < len * c → ∃ u, w.cell? (a.add j) = some u := by
            intro j hj
            have hi : j / c < len := Nat.div_lt_of_lt_mul (by rw [Nat.mul_comm]; exact hj)
            obtain ⟨row, y, h6, _⟩ := hrow (j / c) hi
            obtain ⟨_, h8, h9⟩ := World.cells?_some h6
            have hm := Nat.mod_lt j hc0
            have h10 := h9 (j % c) hm
            rw [addr_add_add, List.getElem?_eq_getElem (by omega)] at h10
            have e2 : j / c * c + j % c = j := by rw [Nat.mul_comm]; exact Nat.div_add_mod j c
            rw [e2] at h10
            exact ⟨_, h10⟩
          have hbig : ∀ m, m ≤ len * c → ∃ big : List Value, big.length = m ∧ ∀ j, j < m → w.cell? (a.add j) = big[j]? := by
            intro m
            induction m with
            | zero => intro _; exact ⟨[], rfl, fun j hj => absurd hj (Nat.not_lt_zero _)⟩
            | succ m ih =>
              intro hm
              obtain ⟨big, hb1, hb2⟩ := ih (by omega)
              obtain ⟨u, hu⟩ := hcell m (by omega)
              refine ⟨big ++ [u], by simp [hb1], fun j hj => ?_⟩
              by_cases e : j = m
              · subst e
                rw [hu, ← hb1]
                simp
              · rw [hb2 j (by omega), List.getElem?_append_left (by omega)]
          obtain ⟨big, hb1, hb2⟩ := hbig (len * c) (Nat.le_refl _)
          have hchunk : ∀ i, i < len → w.cells? base (a.add (i * c)) c = some ((big.drop (i * c)).take c) := by
            intro i hi
            obtain ⟨row, y, h6, _⟩ := hrow i hi
            obtain ⟨_, h8, h9⟩ := World.cells?_some h6
            have hic : i * c + c ≤ len * c := by
              have := Nat.mul_le_mul_right c (show i + 1 ≤ len from hi)
              rw [Nat.succ_mul] at this
              exact this
            rw [h6]
            congr 1
            apply List.ext_getElem?
            intro q
            by_cases hq : q < c
            · rw [← h9 q hq, addr_add_add, hb2 _ (by omega), List.getElem?_take, if_pos hq, List.getElem?_drop]
            · rw [List.getElem?_eq_none (by omega), List.getElem?_eq_none (by simp; omega)]
          have hfl : ((List.range len).map fun i => (big.drop (i * c)).take c).flatten = big := by
            rw [chunks_flatten, List.take_of_length_le (by omega)]
          refine ⟨some a, len, cap, (List.range len).map fun i => (big.drop (i * c)).take c, rfl, h1, h2, by simp, ?_, ?_⟩
          · rw [hfl]
            intro hn
            have hpos : 0 < len * c := by
              rcases Nat.eq_zero_or_pos (len * c) with h0 | h0
              · exact absurd (List.eq_nil_of_length_eq_zero (by omega)) hn
              · exact h0
            obtain ⟨u, hu⟩ := hcell 0 hpos
            have hblk := World.block_lt_of_cell? w (a.add 0) hu
            rw [addr_add_block] at hblk
            refine ⟨a, rfl, hblk, fun j u hu => ?_⟩
            have hj : j < len * c := by
              have := (List.getElem?_eq_some_iff.1 hu).1
              omega
            rw [hb2 j hj, hu]
          · intro r hr
            obtain ⟨i, hi, rfl⟩ := List.mem_map.1 hr
            have hi := List.mem_range.1 hi
            obtain ⟨row, y, h6, h7⟩ := hrow i hi
            have h8 := hchunk i hi
            rw [h6] at h8
            injection h8 with h8
            have h9 := (World.cells?_some h6).2.1
            rw [← h8]
            exact ⟨h9, open_sh n hs' h7⟩
      · cases h
    · rename_i q e ht
      split at h
      · rename_i hc0
        obtain ⟨s', hs', rfl⟩ := Option.map_eq_some_iff.1 h
        obtain ⟨k, rfl, hl, hel⟩ := trod_array ht hd
        generalize hc : P.cellsOf e = c at *
        refine ⟨(List.range q).map fun i => (cs.drop (i * c)).take c, by simp, ?_, ?_⟩
        · rw [chunks_flatten, List.take_of_length_le (by omega)]
        · intro r hr
          obtain ⟨i, hi, rfl⟩ := List.mem_map.1 hr
          have hi := List.mem_range.1 hi
          obtain ⟨y, hy⟩ := hel i hi
          have hic : i * c + c ≤ q * c := by
            have := Nat.mul_le_mul_right c (show i + 1 ≤ q from hi)
            rw [Nat.succ_mul] at this
            exact this
          exact ⟨by simp; omega, open_sh n hs' hy⟩
      · cases h
    · rename_i fs ht
      obtain ⟨xs, k, rfl, _, hl, hxl, hx⟩ := DataW.trod_struct ht hd
      have h5 := fieldsOf_has (k := k) (base := base) (sp := sp) (held := held) (enc := enc) (cs := cs) hl (fun t s cs y => open_sh n) h (fun f hf => by
        obtain ⟨i, hi⟩ := List.getElem?_of_mem hf
        have h6 := hx i f (by simpa using hi)
        have hi2 : i < xs.length := by
          have := (List.getElem?_eq_some_iff.1 hi).1
          rw [hxl]
          simpa using this
        exact ⟨_, h6.trans (List.getElem?_eq_getElem hi2)⟩)
      simpa using h5
    · cases h
end

/-- an array of numbers -/
theorem has_ints {n : Nat} {k : IntKind} {w : World} {cs : List Value} (h : Has (.rep n 1 (.int k)) w cs) : ∃ zs : List Int, zs.length = n ∧ cs = zs.map (Value.int k) ∧ ∀ z ∈ zs, (Lit.int k z).wf = true := by
  obtain ⟨rows, hn, rfl, hr⟩ := h
  subst hn
  induction rows with
  | nil => exact ⟨[], rfl, rfl, by simp⟩
  | cons r rows ih =>
    obtain ⟨zs, h1, h2, h3⟩ := ih fun x hx => hr x (List.mem_cons_of_mem _ hx)
    obtain ⟨_, z, rfl, hz⟩ := hr r List.mem_cons_self
    exact ⟨z :: zs, by simp [h1], by simp [h2], by intro y hy; rcases List.mem_cons.1 hy with rfl | hy; exact hz; exact h3 y hy⟩
/-- a slice of numbers -/
theorem has_slice_ints {k : IntKind} {w : World} {cs : List Value} (h : Has (.slice 1 (.int k)) w cs) : ∃ (A : Option Addr) (len cap : Nat) (zs : List Int), cs = [.slice A len cap] ∧ len ≤ cap ∧ cap ≤ maxLen ∧ zs.length = len ∧
    Rd w w.heap.size A (zs.map (Value.int k)) ∧ ∀ z ∈ zs, (Lit.int k z).wf = true := by
  obtain ⟨A, len, cap, rows, rfl, h1, h2, h3, h4, h5⟩ := h
  obtain ⟨zs, h6, h7, h8⟩ := has_ints (n := len) (w := w) ⟨rows, h3, rfl, h5⟩
  exact ⟨A, len, cap, zs, rfl, h1, h2, h6, by rw [← h7]; exact h4, h8⟩
/-- an aggregate's cells -/
theorem okWide_agg {P : Program} {w : World} {r : Reach} {base : Nat} {t : TypeId} {v : Value} (h : Value.okWide P w r base t v) (ht : (∃ fs, P.underlying t = some (.struct fs)) ∨ ∃ n e, P.underlying t = some (.array n e)) : ∃ cs : List Value, v = .agg cs.toArray := by
  unfold Value.okWide at h
  rcases ht with ⟨fs, ht⟩ | ⟨n, e, ht⟩ <;> rw [ht] at h <;> obtain ⟨cs, rfl, _⟩ := h <;> exact ⟨cs.toList, by simp⟩
/-- an argument's cells, by its type's shape -/
theorem has_of {H : Type} {enc : TypeId × Value → H} {P : Program} {w : World} {base : Nat} {sp : Nat → Bool} {held : Bool} {t : TypeId} {v : Value} {d : DataW H} {ps : List MemPlace} {s : Sh} (n : Nat)
    (hs : shapeOf P n t = some s) (h : DataW.Trod enc P w base sp held t v d ps) : Has s w v.cells.toList := by
  obtain ⟨fuel, hf⟩ := h
  exact open_sh n hs hf
theorem has_agg {H : Type} {enc : TypeId × Value → H} {P : Program} {w : World} {base b0 : Nat} {r : Reach} {sp : Nat → Bool} {held : Bool} {t : TypeId} {v : Value} {d : DataW H} {ps : List MemPlace} {s : Sh} (n : Nat)
    (hs : shapeOf P n t = some s) (h : DataW.Trod enc P w base sp held t v d ps) (hu : Value.okWide P w r b0 t v) (ht : (∃ fs, P.underlying t = some (.struct fs)) ∨ ∃ n e, P.underlying t = some (.array n e)) :
    ∃ cs : List Value, v = .agg cs.toArray ∧ Has s w cs := by
  obtain ⟨cs, rfl⟩ := okWide_agg hu ht
  exact ⟨cs, rfl, by simpa [Value.cells] using has_of n hs h⟩
end Go.Proofs.Ytiljjgohmjimdaa

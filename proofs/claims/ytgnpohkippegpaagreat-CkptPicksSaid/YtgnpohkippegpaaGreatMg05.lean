/-
  Open GeomO Big
-/
import Derived.Test.YtgnpohkippegpaaGreatMg00
import Derived.ChangeArms
import Derived.ChangeReads
import Derived.DataReads
import Derived.WideShapes
import Derived.Test.YtgnpohkippegpaaGreatMg04
import Derived.Test.YtgnpohkippegpaaGreatMg02
import Derived.Deep.MidRow
import Derived.Deep.WholeRow
import Derived.Maps.OwnRows
/-
  How an argument of whatever plain type (numbers, truths, strings, arrays, structs, slices of these) lies in memory, told by the type's shape. Nothing here speaks of one program.
-/
namespace Go.Proofs.YtgnpohkippegpaaGreat
open Go.RowKit

/-- a plain type's shape: 'pair n a b': n cells of a, then b; 'rep n c s': n pieces of c cells; 'slice c s': elements of c cells -/
inductive Sh where
  | int (k : IntKind)
  | bool
  | str
  | nil
  | pair (n : Nat) (a b : Sh)
  | rep (n c : Nat) (s : Sh)
  | slice (c : Nat) (s : Sh)

/-- 'Has s w cs': the cells cs are of shape s in w -/
def Has : Sh → World → List Value → Prop
  | .int k, _, cs => ∃ n, cs = [.int k n] ∧ (Lit.int k n).wf = true
  | .bool, _, cs => ∃ b, cs = [.bool b]
  | .str, _, cs => ∃ s, cs = [.string s] ∧ s.size ≤ maxLen
  | .nil, _, cs => cs = []
  | .pair n a b, w, cs => ∃ xs ys, cs = xs ++ ys ∧ xs.length = n ∧ Has a w xs ∧ Has b w ys
  | .rep n c s, w, cs => ∃ rows : List (List Value), rows.length = n ∧ cs = rows.flatten ∧ ∀ r ∈ rows, r.length = c ∧ Has s w r
  | .slice c s, w, cs => ∃ (A : Option Addr) (len cap : Nat) (rows : List (List Value)), cs = [.slice A len cap] ∧ len ≤ cap ∧ cap ≤ maxLen ∧ rows.length = len ∧ Rd w w.heap.size A rows.flatten ∧ ∀ r ∈ rows, r.length = c ∧ Has s w r

section
variable (P : Program)
def fieldsOf (r : TypeId → Option Sh) (all : Nat) : Nat → List Field → Option Sh
  | off, [] => if off = all then some .nil else none
  | off, f :: fs => if f.offset = off then (match r f.type, fieldsOf r all (off + P.cellsOf f.type) fs with | some a, some b => some (.pair (P.cellsOf f.type) a b) | _, _ => none) else none
def shapeOf : Nat → TypeId → Option Sh
  | 0, _ => none
  | n + 1, t => match P.underlying t with
    | some .bool => some .bool
    | some (.int k) => some (.int k)
    | some .string => some .str
    | some (.slice e) => if 0 < P.cellsOf e then (shapeOf n e).map (.slice (P.cellsOf e)) else none
    | some (.array m e) => if P.cellsOf t = m * P.cellsOf e then (shapeOf n e).map (.rep m (P.cellsOf e)) else none
    | some (.struct fs) => fieldsOf P (shapeOf n) (P.cellsOf t) 0 fs.toList
    | _ => none
end

theorem chunks_flatten {α : Type} (cs : List α) (c : Nat) : ∀ n : Nat, ((List.range n).map fun i => (cs.drop (i * c)).take c).flatten = cs.take (n * c)
  | 0 => by simp
  | n + 1 => by
    rw [List.range_succ, List.map_append, List.flatten_append, chunks_flatten cs c n, Nat.succ_mul, List.take_add]
    simp

theorem addr_add_add (a : Addr) (i j : Nat) : (a.add i).add j = a.add (i + j) := by
  unfold Addr.add
  by_cases hi : i = 0 <;> by_cases hj : j = 0 <;> simp [hi, hj, Nat.add_assoc]

section
variable {H : Type} {enc : TypeId × Value → H} {P : Program} {w : World} {base : Nat} {sp : Nat → Bool} {held : Bool}

theorem trod_array {t e : TypeId} {n m : Nat} {cs : List Value} {x : DataW H × List MemPlace} (ht : P.underlying t = some (.array n e)) (h : DataW.trod enc P w base sp held m t cs = some x) :
    ∃ k, m = k + 1 ∧ cs.length = P.cellsOf t ∧ ∀ i, i < n → ∃ y, DataW.trod enc P w base sp held k e ((cs.drop (i * P.cellsOf e)).take (P.cellsOf e)) = some y := by
  cases m with
  | zero => simp [DataW.trod] at h
  | succ k =>
    rw [DataW.trod_step] at h
    unfold DataW.trodStep at h
    simp only [ht] at h
    by_cases hl : cs.length = P.cellsOf t
    · rw [if_pos hl] at h
      simp only [Option.map_eq_some_iff] at h
      obtain ⟨ys, hy, _⟩ := h
      refine ⟨k, rfl, hl, fun i hi => ?_⟩
      have hn : ys.length = n := by simpa using mapM_some_length hy
      exact ⟨_, (mapM_some_get hy i i (by simp [hi])).trans (List.getElem?_eq_getElem (by omega))⟩
    · rw [if_neg hl] at h
      cases h

theorem fieldsOf_le {r : TypeId → Option Sh} {all : Nat} : ∀ {fs : List Field} {off : Nat} {s : Sh}, fieldsOf P r all off fs = some s → off ≤ all
  | [], off, s, h => by
    unfold fieldsOf at h
    split at h
    · omega
    · cases h
  | f :: fs, off, s, h => by
    unfold fieldsOf at h
    split at h
    · split at h
      · rename_i hb
        have := fieldsOf_le hb
        omega
      · cases h
    · cases h

theorem fieldsOf_has {r : TypeId → Option Sh} {all k : Nat} {cs : List Value} (hl : cs.length = all) (hr : ∀ t s cs y, r t = some s → DataW.trod enc P w base sp held k t cs = some y → Has s w cs) :
    ∀ {fs : List Field} {off : Nat} {s : Sh}, fieldsOf P r all off fs = some s → (∀ f ∈ fs, ∃ y, DataW.trod enc P w base sp held k f.type ((cs.drop f.offset).take (P.cellsOf f.type)) = some y) → Has s w (cs.drop off)
  | [], off, s, h, _ => by
    unfold fieldsOf at h
    split at h
    · rename_i e
      injection h with h
      subst h
      subst e
      show cs.drop off = []
      rw [← hl, List.drop_length]
    · cases h
  | f :: fs, off, s, h, ht => by
    unfold fieldsOf at h
    split at h
    · rename_i e
      split at h
      · rename_i a b ha hb
        injection h with h
        subst h
        have hle := fieldsOf_le hb
        obtain ⟨y, hy⟩ := ht f List.mem_cons_self
        rw [e] at hy
        refine ⟨(cs.drop off).take (P.cellsOf f.type), cs.drop (off + P.cellsOf f.type), ?_, by simp; omega, hr _ _ _ _ ha hy, fieldsOf_has hl hr hb fun g hg => ht g (List.mem_cons_of_mem _ hg)⟩
        rw [← List.drop_drop, List.take_append_drop]
      · cases h
    · cases h

theorem open_sh : ∀ (n : Nat) {t : TypeId} {s : Sh} {m : Nat} {cs : List Value} {x : DataW H × List MemPlace}, shapeOf P n t = some s → DataW.trod enc P w base sp held m t cs = some x → Has s w cs
  | 0, t, s, m, cs, x, h, _ => by simp [shapeOf] at h
  | n + 1, t, s, m, cs, x, h, hd => by
    unfold shapeOf at h
    split at h
    · rename_i ht
      injection h with h
      subst h
      obtain ⟨b, hb, _⟩ := DataW.trod_bool ht hd
      exact ⟨b, hb⟩
    · rename_i k ht
      injection h with h
      subst h
      obtain ⟨q, hq, _, hw⟩ := DataW.trod_int ht hd
      exact ⟨q, hq, hw⟩
    · rename_i ht
      injection h with h
      subst h
      obtain ⟨q, hq, _, hw⟩ := DataW.trod_string ht hd
      exact ⟨q, hq, hw⟩
    · rename_i e ht
      split at h
      · rename_i hc0
        obtain ⟨s', hs', rfl⟩ := Option.map_eq_some_iff.1 h
        rcases DataW.trod_slice ht hd with ⟨rfl, _⟩ | ⟨a, len, cap, elems, rest, k, rfl, rfl, _, _, h1, h2, h3, h4, _⟩
        · exact ⟨none, 0, 0, [], rfl, Nat.le_refl _, Nat.zero_le _, rfl, Rd.empty, by simp⟩
        · generalize hc : P.cellsOf e = c at *
          have hrow : ∀ i, i < len → ∃ row y, w.cells? base (a.add (i * c)) c = some row ∧ DataW.trod enc P w base sp held k e row = some y := by
            intro i hi
            have h5 := h4 i hi
            rw [List.getElem?_eq_getElem (by omega)] at h5
            obtain ⟨row, h6, h7⟩ := Option.bind_eq_some_iff.1 h5
            exact ⟨row, _, h6, h7⟩
          have hcell : ∀ j, j < len * c → ∃ u, w.cell? (a.add j) = some u := by
            intro j hj
            have hi : j / c < len := Nat.div_lt_of_lt_mul (by rw [Nat.mul_comm]; exact hj)
            obtain ⟨row, y, h6, _⟩ := hrow (j / c) hi
            obtain ⟨_, h8, h9⟩ := World.cells?_some h6
            have hm := Nat.mod_lt j hc0
            have h10 := h9 (j % c) hm
            rw [addr_add_add, List.getElem?_eq_getElem (by omega)] at h10
            have e2 : j / c * c + j % c = j := by rw [Nat.mul_comm]; exact Nat.div_add_mod j c
            rw [e2] at h10
            exact ⟨_, h10⟩
          have hbig : ∀ m, m ≤ len * c → ∃ big : List Value, big.length = m ∧ ∀ j, j < m → w.cell? (a.add j) = big[j]? := by
            intro m
            induction m with
            | zero => intro _; exact ⟨[], rfl, fun j hj => absurd hj (Nat.not_lt_zero _)⟩
            | succ m ih =>
              intro hm
              obtain ⟨big, hb1, hb2⟩ := ih (by omega)
              obtain ⟨u, hu⟩ := hcell m (by omega)
              refine ⟨big ++ [u], by simp [hb1], fun j hj => ?_⟩
              by_cases e : j = m
              · subst e
                rw [hu, ← hb1]
                simp
              · rw [hb2 j (by omega), List.getElem?_append_left (by omega)]
          obtain ⟨big, hb1, hb2⟩ := hbig (len * c) (Nat.le_refl _)
          have hchunk : ∀ i, i < len → w.cells? base (a.add (i * c)) c = some ((big.drop (i * c)).take c) := by
            intro i hi
            obtain ⟨row, y, h6, _⟩ := hrow i hi
            obtain ⟨_, h8, h9⟩ := World.cells?_some h6
            have hic : i * c + c ≤ len * c := by
              have := Nat.mul_le_mul_right c (show i + 1 ≤ len from hi)
              rw [Nat.succ_mul] at this
              exact this
            rw [h6]
            congr 1
            apply List.ext_getElem?
            intro q
            by_cases hq : q < c
            · rw [← h9 q hq, addr_add_add, hb2 _ (by omega), List.getElem?_take, if_pos hq, List.getElem?_drop]
            · rw [List.getElem?_eq_none (by omega), List.getElem?_eq_none (by simp; omega)]
          have hfl : ((List.range len).map fun i => (big.drop (i * c)).take c).flatten = big := by
            rw [chunks_flatten, List.take_of_length_le (by omega)]
          refine ⟨some a, len, cap, (List.range len).map fun i => (big.drop (i * c)).take c, rfl, h1, h2, by simp, ?_, ?_⟩
          · rw [hfl]
            intro hn
            have hpos : 0 < len * c := by
              rcases Nat.eq_zero_or_pos (len * c) with h0 | h0
              · exact absurd (List.eq_nil_of_length_eq_zero (by omega)) hn
              · exact h0
            obtain ⟨u, hu⟩ := hcell 0 hpos
            have hblk := World.block_lt_of_cell? w (a.add 0) hu
            rw [addr_add_block] at hblk
            refine ⟨a, rfl, hblk, fun j u hu => ?_⟩
            have hj : j < len * c := by
              have := (List.getElem?_eq_some_iff.1 hu).1
              omega
            rw [hb2 j hj, hu]
          · intro r hr
            obtain ⟨i, hi, rfl⟩ := List.mem_map.1 hr
            have hi := List.mem_range.1 hi
            obtain ⟨row, y, h6, h7⟩ := hrow i hi
            have h8 := hchunk i hi
            rw [h6] at h8
            injection h8 with h8
            have h9 := (World.cells?_some h6).2.1
            rw [← h8]
            exact ⟨h9, open_sh n hs' h7⟩
      · cases h
    · rename_i q e ht
      split at h
      · rename_i hc0
        obtain ⟨s', hs', rfl⟩ := Option.map_eq_some_iff.1 h
        obtain ⟨k, rfl, hl, hel⟩ := trod_array ht hd
        generalize hc : P.cellsOf e = c at *
        refine ⟨(List.range q).map fun i => (cs.drop (i * c)).take c, by simp, ?_, ?_⟩
        · rw [chunks_flatten, List.take_of_length_le (by omega)]
        · intro r hr
          obtain ⟨i, hi, rfl⟩ := List.mem_map.1 hr
          have hi := List.mem_range.1 hi
          obtain ⟨y, hy⟩ := hel i hi
          have hic : i * c + c ≤ q * c := by
            have := Nat.mul_le_mul_right c (show i + 1 ≤ q from hi)
            rw [Nat.succ_mul] at this
            exact this
          exact ⟨by simp; omega, open_sh n hs' hy⟩
      · cases h
    · rename_i fs ht
      obtain ⟨xs, k, rfl, _, hl, hxl, hx⟩ := DataW.trod_struct ht hd
      have h5 := fieldsOf_has (k := k) (base := base) (sp := sp) (held := held) (enc := enc) (cs := cs) hl (fun t s cs y => open_sh n) h (fun f hf => by
        obtain ⟨i, hi⟩ := List.getElem?_of_mem hf
        have h6 := hx i f (by simpa using hi)
        have hi2 : i < xs.length := by
          have := (List.getElem?_eq_some_iff.1 hi).1
          rw [hxl]
          simpa using this
        exact ⟨_, h6.trans (List.getElem?_eq_getElem hi2)⟩)
      simpa using h5
    · cases h
end

/-- an array of numbers -/
theorem has_ints {n : Nat} {k : IntKind} {w : World} {cs : List Value} (h : Has (.rep n 1 (.int k)) w cs) : ∃ zs : List Int, zs.length = n ∧ cs = zs.map (Value.int k) ∧ ∀ z ∈ zs, (Lit.int k z).wf = true := by
  obtain ⟨rows, hn, rfl, hr⟩ := h
  subst hn
  induction rows with
  | nil => exact ⟨[], rfl, rfl, by simp⟩
  | cons r rows ih =>
    obtain ⟨zs, h1, h2, h3⟩ := ih fun x hx => hr x (List.mem_cons_of_mem _ hx)
    obtain ⟨_, z, rfl, hz⟩ := hr r List.mem_cons_self
    exact ⟨z :: zs, by simp [h1], by simp [h2], by intro y hy; rcases List.mem_cons.1 hy with rfl | hy; exact hz; exact h3 y hy⟩
/-- a slice of numbers -/
theorem has_slice_ints {k : IntKind} {w : World} {cs : List Value} (h : Has (.slice 1 (.int k)) w cs) : ∃ (A : Option Addr) (len cap : Nat) (zs : List Int), cs = [.slice A len cap] ∧ len ≤ cap ∧ cap ≤ maxLen ∧ zs.length = len ∧
    Rd w w.heap.size A (zs.map (Value.int k)) ∧ ∀ z ∈ zs, (Lit.int k z).wf = true := by
  obtain ⟨A, len, cap, rows, rfl, h1, h2, h3, h4, h5⟩ := h
  obtain ⟨zs, h6, h7, h8⟩ := has_ints (n := len) (w := w) ⟨rows, h3, rfl, h5⟩
  exact ⟨A, len, cap, zs, rfl, h1, h2, h6, by rw [← h7]; exact h4, h8⟩
/-- an aggregate's cells -/
theorem okWide_agg {P : Program} {w : World} {r : Reach} {base : Nat} {t : TypeId} {v : Value} (h : Value.okWide P w r base t v) (ht : (∃ fs, P.underlying t = some (.struct fs)) ∨ ∃ n e, P.underlying t = some (.array n e)) : ∃ cs : List Value, v = .agg cs.toArray := by
  unfold Value.okWide at h
  rcases ht with ⟨fs, ht⟩ | ⟨n, e, ht⟩ <;> rw [ht] at h <;> obtain ⟨cs, rfl, _⟩ := h <;> exact ⟨cs.toList, by simp⟩
/-- an argument's cells, by its type's shape -/
theorem has_of {H : Type} {enc : TypeId × Value → H} {P : Program} {w : World} {base : Nat} {sp : Nat → Bool} {held : Bool} {t : TypeId} {v : Value} {d : DataW H} {ps : List MemPlace} {s : Sh} (n : Nat)
    (hs : shapeOf P n t = some s) (h : DataW.Trod enc P w base sp held t v d ps) : Has s w v.cells.toList := by
  obtain ⟨fuel, hf⟩ := h
  exact open_sh n hs hf
theorem has_agg {H : Type} {enc : TypeId × Value → H} {P : Program} {w : World} {base b0 : Nat} {r : Reach} {sp : Nat → Bool} {held : Bool} {t : TypeId} {v : Value} {d : DataW H} {ps : List MemPlace} {s : Sh} (n : Nat)
    (hs : shapeOf P n t = some s) (h : DataW.Trod enc P w base sp held t v d ps) (hu : Value.okWide P w r b0 t v) (ht : (∃ fs, P.underlying t = some (.struct fs)) ∨ ∃ n e, P.underlying t = some (.array n e)) :
    ∃ cs : List Value, v = .agg cs.toArray ∧ Has s w cs := by
  obtain ⟨cs, rfl⟩ := okWide_agg hu ht
  exact ⟨cs, rfl, by simpa [Value.cells] using has_of n hs h⟩
end Go.Proofs.YtgnpohkippegpaaGreat

/-
  A measure, a place as arguments; a measure in a block of its own.
-/
namespace Go.Proofs.YtgnpohkippegpaaGreat
open Go.RowKit Geom
set_option linter.unusedVariables false

theorem wf_i64 {x : Int} (h : (Lit.int .i64 x).wf = true) : -9223372036854775808 ≤ x ∧ x < 9223372036854775808 := by
  simp [Lit.wf, IntKind.min, IntKind.max, IntKind.signed, IntKind.bits] at h
  omega
theorem One.drew {w w' : World} {conv soft seq size opn : Int} (h : One w w' conv soft seq size opn) : One w w'.drew conv soft seq size opn := ⟨h.1.drew, h.2.drew⟩
theorem One.new (w : World) (conv soft seq size opn : Int) (T : TypeId) : One w (w.alloc (.cells #[.int .i64 conv, .int .i64 soft, .int .i64 seq, .int .i64 size, .int .i64 opn] T)) conv soft seq size opn :=
  ⟨Lies.new w conv soft seq size opn T (0, 0), (Below.refl _ _).alloc (Nat.le_refl _) _⟩

set_option maxRecDepth 100000 in
theorem open_geo {H : Type} {enc : TypeId × Value → H} {w : World} {base b0 : Nat} {r : Reach} {sp : Nat → Bool} {held : Bool} {v : Value} {d : DataW H} {ps : List MemPlace}
    (hu : Value.okWide Tryz.prog w r b0 23 v) (h : DataW.Trod enc Tryz.prog w base sp held 23 v d ps) :
    ∃ conv soft seq size opn : Int, v = .agg #[.int .i64 conv, .int .i64 soft, .int .i64 seq, .int .i64 size, .int .i64 opn] ∧ seq < 9223372036854775808 := by
  obtain ⟨cs, rfl, hs⟩ := has_agg (s := .pair 1 (.int .i64) (.pair 1 (.int .i64) (.pair 1 (.int .i64) (.pair 1 (.int .i64) (.pair 1 (.int .i64) .nil))))) 3 (by kernel_rfl) h hu (.inl ⟨_, Tryz.underlying23⟩)
  obtain ⟨_, _, rfl, _, ⟨conv, rfl, _⟩, _, _, rfl, _, ⟨soft, rfl, _⟩, _, _, rfl, _, ⟨seq, rfl, hw⟩, _, _, rfl, _, ⟨size, rfl, _⟩, _, _, rfl, _, ⟨opn, rfl, _⟩, rfl⟩ := hs
  exact ⟨conv, soft, seq, size, opn, rfl, (wf_i64 hw).2⟩

set_option maxRecDepth 100000 in
theorem open_place {H : Type} {enc : TypeId × Value → H} {w : World} {base b0 : Nat} {r : Reach} {sp : Nat → Bool} {held : Bool} {v : Value} {d : DataW H} {ps : List MemPlace}
    (hu : Value.okWide Tryz.prog w r b0 47 v) (h : DataW.Trod enc Tryz.prog w base sp held 47 v d ps) :
    ∃ zone off : Int, v = .agg #[.int .i64 zone, .int .i64 off] := by
  obtain ⟨cs, rfl, hs⟩ := has_agg (s := .pair 1 (.int .i64) (.pair 1 (.int .i64) .nil)) 3 (by kernel_rfl) h hu (.inl ⟨_, Tryz.underlying47⟩)
  obtain ⟨_, _, rfl, _, ⟨zone, rfl, _⟩, _, _, rfl, _, ⟨off, rfl, _⟩, rfl⟩ := hs
  exact ⟨zone, off, rfl⟩

end Go.Proofs.YtgnpohkippegpaaGreat

/-
  Blocks of many cells, known whole: read and laid at once. Nothing here speaks of one program.
-/
namespace Go.Proofs.YtgnpohkippegpaaGreat
open Go.RowKit
set_option linter.unusedVariables false

/-- a block of a few cells, known whole -/
def Box (w : World) (b : Nat) (T : TypeId) (cs : List Value) : Prop := w.heap[b]? = some (.cells cs.toArray T (0, 0))
section
variable {w w' : World} {b : Nat} {T : TypeId} {cs : List Value}
theorem Box.lt (h : Box w b T cs) : b < w.heap.size := lt_of_block h
theorem Box.same (h : Box w b T cs) (hb : w'.heap[b]? = w.heap[b]?) : Box w' b T cs := hb.trans h
theorem Box.cell (h : Box w b T cs) (k : Nat) : w.cell? ⟨b, k, none⟩ = cs[k]? := by
  have := cell_of_row w b k _ _ _ h
  simpa using this
theorem Box.frozen (h : Box w b T cs) (k : Nat) : w.frozen? ⟨b, k, none⟩ = false := frozen_of_row _ _ _ _ _ h
theorem Box.set (h : Box w b T cs) (k : Nat) (v : Value) : Box (w.setCell ⟨b, k, none⟩ v) b T (cs.set k v) := (heap_setCell_same _ _ _ _ _ _ h).trans (by simp)
theorem Box.ne {b' : Nat} {T' : TypeId} {cs' : List Value} (h : Box w b T cs) (h' : Box w b' T' cs') (hn : T ≠ T') : b ≠ b' := by
  rintro rfl
  unfold Box at h h'
  rw [h'] at h
  injection h with h
  injection h with _ h
  exact hn h.symm
theorem Box.ne_row {base sz n g : Nat} {e : TypeId} {v : Value} {xs : List Value} (h : Box w b T cs) (hr : w.ownsRow base e sz v n xs) (hg : v.ownBlock = some g) (hn : T ≠ e) : b ≠ g := by
  rintro rfl
  obtain ⟨_, cur, h2⟩ := own_type hr hg
  unfold Box at h
  rw [h2] at h
  injection h with h
  injection h with _ h
  exact hn h.symm
theorem Box.new (w : World) (T : TypeId) (cs : List Value) : Box (w.alloc (.cells cs.toArray T)) w.heap.size T cs := (MapKept.heap_alloc w _).1
/-- a box stays where calls only make memory -/
theorem Box.below {B : Nat} (h : Box w b T cs) (hb : Below B w w') (hB : b < B) : Box w' b T cs := h.same (hb.block _ hB)
theorem Box.on (h : Box w b T cs) (hb : Below w.heap.size w w') : Box w' b T cs := h.below hb h.lt
theorem Box.range (h : Box w b T cs) (o : Nat) (us : List Value) (hu : ∀ j v, us[j]? = some v → cs[o + j]? = some v) : w.rangeAt b o us := fun j v hj => (h.cell (o + j)).trans (hu j v hj)
theorem Box.range0 (h : Box w b T cs) : w.rangeAt b 0 cs := h.range 0 cs fun j v hj => by rw [Nat.zero_add]; exact hj
theorem Box.grown {g : Nat} (h : Box w b T cs) (hg : w.grownBy w' (some g)) (hne : b ≠ g) : Box w' b T cs := h.same (hg.block b h.lt fun e => hne (Option.some.inj e))
/-- an array's variable as a row of its own -/
theorem Box.own (h : Box w b T cs) {n : Nat} (hn : cs.length = n) (hm : n ≤ maxLen) (base : Nat) (hb : base ≤ b) : w.ownsRow base T 1 (.slice (some ⟨b, 0, none⟩) n n) n cs := by
  refine ⟨by rw [hn, Nat.mul_one], .inr ⟨b, n, cs.toArray, rfl, hb, h, Nat.le_refl _, hm, by simp [hn], ?_⟩⟩
  simp
  exact List.take_of_length_le (by omega)
theorem Box.of_own {base n : Nat} (h : w.ownsRow base T 1 (.slice (some ⟨b, 0, none⟩) n n) n cs) (hn : 0 < n) : Box w b T cs := by
  rcases h.2 with ⟨h2, _⟩ | ⟨g, cap, cur, h1, _, h3, _, _, h5, h6⟩
  · cases h2
  · injection h1 with h1 _ h2
    injection h1 with h1
    injection h1 with h1
    subst h1
    subst h2
    have e : cur = cs.toArray := by
      rw [← h6, List.take_of_length_le (by simp; omega)]
    exact h3.trans (by rw [e])
theorem below_grown {w w' : World} {g : Nat} {B : Nat} (h : w.grownBy w' (some g)) (hB : B ≤ g) (hs : B ≤ w.heap.size) : Below B w w' := (Below.refl _ _).grown h hs fun k hk => by injection hk with hk; omega
end

theorem foldl_set_off (off : Nat) (us : List Value) (l : List Value) : ∀ (k : Nat) (pre : List Value), pre.length = off + k → us.length ≤ l.length →
    (us.zipIdx k).foldl (fun cs (x : Value × Nat) => cs.setIfInBounds (off + x.2) x.1) ((pre ++ l).toArray) = (pre ++ us ++ l.drop us.length).toArray := by
  induction us generalizing l with
  | nil => intro k pre _ _; simp
  | cons u r ih =>
    intro k pre hk hl
    cases l with
    | nil => simp at hl
    | cons y l =>
      rw [List.zipIdx_cons, List.foldl_cons]
      have e : (pre ++ y :: l).toArray.setIfInBounds (off + k) u = ((pre ++ [u]) ++ l).toArray := by
        simp [← hk]
      simp only [e]
      rw [ih l (k + 1) (pre ++ [u]) (by simp [hk]; omega) (by simpa using hl)]
      simp
theorem fill_int (pl : Nat → Option (Nat × Nat)) (pre rest : List Value) (x0 : Value) (k : IntKind) (n : Int) (i off : Nat) (more : List (Nat × Value)) (hpl : pl i = some (off, 1)) (hoff : pre.length = off) :
    Instr.fill pl (pre ++ x0 :: rest).toArray ((i, .int k n) :: more) = Instr.fill pl (pre ++ Value.int k n :: rest).toArray more := by
  have e : (Value.int k n).cells = #[Value.int k n] := rfl
  conv => lhs; unfold Instr.fill
  simp only [hpl, e]
  rw [if_neg (by simp; omega)]
  congr 1
  subst hoff
  simp
theorem fill_end (pl : Nat → Option (Nat × Nat)) (pre old us : List Value) (i off : Nat) (hpl : pl i = some (off, us.length)) (hoff : pre.length = off) (hl : us.length = old.length) :
    Instr.fill pl (pre ++ old).toArray [(i, .agg us.toArray)] = some (pre ++ us).toArray := by
  have e : (Value.agg us.toArray).cells = us.toArray := rfl
  have hf := foldl_set_off off us old 0 pre (by omega) (by omega)
  rw [List.drop_eq_nil_of_le (by omega), List.append_nil] at hf
  unfold Instr.fill
  simp only [hpl, e]
  rw [if_neg (by simp; omega)]
  unfold Instr.fill
  rw [← Array.foldl_toList, Array.toList_zipIdx, hf]
/-- many cells are stored at once -/
theorem big_store (P : Program) (w : World) (g : Nat) (t ty : TypeId) (old : Array Value) (cs : List Value) (hg : w.heap[g]? = some (.cells old t (0, 0))) (hi : (P.info? ty).map (·.size) = some cs.length)
    (ho : old.size = cs.length) (h1 : ∀ u ∈ cs, u.oneCell' = true) : (storeCells ⟨g, 0, none⟩ cs 0).run P w = .ok () (w.setRow g cs.toArray) := by
  have := run_storeVar_row (P := P) w g t ty old cs.toArray hg (by simpa using hi) (by simpa using ho) (all_oneCell_toArray h1)
  cases hq : P.info? ty with
  | none => simp [hq] at hi
  | some i =>
    have hs : cs.length = i.size := by simp [hq] at hi; omega
    simpa [storeVar, sizeOf, typeInfo, hq, Value.cells, hs] using this
theorem big_all_eq : ∀ (xs ys : List Int), xs.length = ys.length → ((List.range xs.length).all fun i => xs.getD i 0 == ys.getD i 0) = (xs == ys)
  | [], [], _ => rfl
  | x :: xs, y :: ys, h => by
    have ih := big_all_eq xs ys (by simpa using h)
    rw [List.length_cons, List.range_succ_eq_map, List.all_cons, List.all_map]
    simp only [List.getD_cons_zero, Function.comp_def, List.getD_cons_succ, ih]
    simp [List.cons_beq_cons]
  | [], _ :: _, h => by simp at h
  | _ :: _, [], h => by simp at h
section
variable {P : Program} (w : World)
/-- two arrays of integers are compared -/
theorem big_equal (d : Nat) (t e : TypeId) (n : Nat) (k : IntKind) (ht : P.underlying t = some (.array n e)) (he : P.underlying e = some (.int k)) (hsz : ∀ w, (sizeOf e).run P w = .ok 1 w)
    (xs ys : List Int) (hx : xs.length = n) (hy : ys.length = n) :
    (Op.equalIn (d + 2) t (.agg (xs.map (Value.int k)).toArray) (.agg (ys.map (Value.int k)).toArray)).run P w = .ok (xs == ys) w := by
  rw [← big_all_eq xs ys (hx.trans hy.symm), hx, List.range_eq_range', Op.equalIn]
  simp only [Sem.run_bind, run_underlying ht, Result.andThen_ok, hsz, Std.Legacy.Range.forIn_eq_forIn_range', Std.Legacy.Range.size, Nat.sub_zero, Nat.add_sub_cancel, Nat.div_one]
  have hl : ∀ i ∈ List.range' 0 n 1, i < n := fun i hi => by simpa using (List.mem_range'_1.1 hi).2
  generalize List.range' 0 n 1 = l at hl ⊢
  induction l with
  | nil => simp
  | cons i l ih =>
    have hi : i < n := hl i (by simp)
    have px : (part e (xs.map (Value.int k)).toArray (i * 1)).run P w = .ok (.int k (xs.getD i 0)) w := by
      simp [part, isAgg, run_underlying he, List.getD, List.getElem?_eq_getElem (show i < xs.length by omega)]
    have py : (part e (ys.map (Value.int k)).toArray (i * 1)).run P w = .ok (.int k (ys.getD i 0)) w := by
      simp [part, isAgg, run_underlying he, List.getD, List.getElem?_eq_getElem (show i < ys.length by omega)]
    have pe : (Op.equalIn (d + 1) e (.int k (xs.getD i 0)) (.int k (ys.getD i 0))).run P w = .ok (xs.getD i 0 == ys.getD i 0) w := run_equalIn_int w d e k k _ _ he
    simp only [List.forIn_cons, Sem.run_bind, px, py, pe, Result.andThen_ok, List.all_cons]
    cases hb : (xs.getD i 0 == ys.getD i 0)
    · simp
    · simp only [Bool.not_true, Bool.false_eq_true, if_false, Sem.run_pure, Result.andThen_ok, Bool.true_and]
      exact ih fun j hj => hl j (by simp [hj])
theorem big_eql (t e : TypeId) (n : Nat) (k : IntKind) (ht : P.underlying t = some (.array n e)) (he : P.underlying e = some (.int k)) (hsz : ∀ w, (sizeOf e).run P w = .ok 1 w)
    (xs ys : List Int) (hx : xs.length = n) (hy : ys.length = n) : (binOp .eql t (.agg (xs.map (Value.int k)).toArray) (.agg (ys.map (Value.int k)).toArray)).run P w = .ok (.bool (xs == ys)) w := by
  rw [run_eql_struct, big_equal w 9998 t e n k ht he hsz xs ys hx hy]
  rfl
theorem big_neq (t e : TypeId) (n : Nat) (k : IntKind) (ht : P.underlying t = some (.array n e)) (he : P.underlying e = some (.int k)) (hsz : ∀ w, (sizeOf e).run P w = .ok 1 w)
    (xs ys : List Int) (hx : xs.length = n) (hy : ys.length = n) : (binOp .neq t (.agg (xs.map (Value.int k)).toArray) (.agg (ys.map (Value.int k)).toArray)).run P w = .ok (.bool (!(xs == ys))) w := by
  rw [run_neq_struct, big_equal w 9998 t e n k ht he hsz xs ys hx hy]
  rfl
/-- the zero value of an array or a struct of whatever size -/
theorem wpList_build_zero {ops : Array Oper} {rest : List Oper} {o : Oper} {a : Act} {Q : Exit → Act → World → Prop} (hgd : o.guard = none) (t : TypeId) (ho : o.op = .build t #[]) (cs : List Value) (hb : ∀ w, (Instr.build t #[]).run P w = .ok (.agg cs.toArray) w)
    (h : wpList P ops Q rest (a.put o.dst (.agg cs.toArray)) w) : wpList P ops Q (o :: rest) a w := by
  refine wpList_plain hgd fun K hK => ?_
  unfold Oper.wp
  simp [execOp, ho, hb w, Result.andThen]
  exact hK _ _ h
/-- a variable of whatever size is made -/
theorem wpList_alloc_box {ops : Array Oper} {rest : List Oper} {o : Oper} {a : Act} {Q : Exit → Act → World → Prop} (hgd : o.guard = none) (t : TypeId) (ho : o.op = .alloc t) (cs : List Value) (hz : ∀ w, (zeroValue t).run P w = .ok (.agg cs.toArray) w)
    (h : ∀ w', Box w' w.heap.size t cs → Below w.heap.size w w' → w'.heap.size = w.heap.size + 1 → wpList P ops Q rest (a.put o.dst (.pointer (some ⟨w.heap.size, 0, none⟩))) w') : wpList P ops Q (o :: rest) a w := by
  refine wpList_plain hgd fun K hK => ?_
  have e : (Instr.alloc t true (.tuple #[])).run P w = .ok (.pointer (some ⟨w.heap.size, 0, none⟩)) (w.alloc (.cells cs.toArray t)) := by
    simp [Instr.alloc, hz w, newVar, newRow, newObj, Value.cells]
    rfl
  unfold Oper.wp execOp
  simp only [ho, Sem.run_bind, e, Result.andThen_ok]
  exact hK _ _ (h _ (Box.new w t cs) ((Below.refl _ _).alloc (Nat.le_refl _) _) (by simp))
/-- a value of whatever size is laid into a new variable -/
theorem wpList_box_box {ops : Array Oper} {rest : List Oper} {o : Oper} {a : Act} {Q : Exit → Act → World → Prop} (hgd : o.guard = none) (t : TypeId) (x : Operand) (ho : o.op = .box t x) (cs : List Value) (hx : a.eval x = .agg cs.toArray)
    (h : ∀ w', Box w' w.heap.size t cs → Below w.heap.size w w' → w'.heap.size = w.heap.size + 1 → wpList P ops Q rest (a.put o.dst (.pointer (some ⟨w.heap.size, 0, none⟩))) w') : wpList P ops Q (o :: rest) a w := by
  refine wpList_plain hgd fun K hK => ?_
  have e : (Instr.box t (.agg cs.toArray)).run P w = .ok (.pointer (some ⟨w.heap.size, 0, none⟩)) (w.alloc (.cells cs.toArray t)) := by
    simp [Instr.box, newVar, newRow, newObj, Value.cells]
    rfl
  unfold Oper.wp execOp
  simp only [ho, hx, Sem.run_bind, e, Result.andThen_ok]
  exact hK _ _ (h _ (Box.new w t cs) ((Below.refl _ _).alloc (Nat.le_refl _) _) (by simp))
/-- a variable of whatever size is laid -/
theorem wpList_store_box {ops : Array Oper} {rest : List Oper} {o : Oper} {a : Act} {Q : Exit → Act → World → Prop} (hgd : o.guard = none) (t : TypeId) (x y : Operand) (ho : o.op = .store t x y) (g : Nat) (cs old : List Value) (hsz : (P.info? t).map (·.size) = some cs.length) (hold : old.length = cs.length)
    (h1 : ∀ u ∈ cs, u.oneCell' = true) (hx : a.eval x = .pointer (some ⟨g, 0, none⟩)) (hy : a.eval y = .agg cs.toArray) (hb : Box w g t old)
    (h : wpList P ops Q rest (a.put o.dst undef) (w.setRow g cs.toArray)) : wpList P ops Q (o :: rest) a w := by
  refine wpList_plain hgd fun K hK => ?_
  have hr := run_storeVar_row (P := P) w g t t old.toArray cs.toArray hb (by simpa using hsz) (by simp [hold]) (all_oneCell_toArray h1)
  unfold Oper.wp execOp
  simp only [ho, hx, hy, Instr.storeAt, Instr.sureAddr, Sem.run_bind, Sem.run_pure, Result.andThen_ok, hr]
  exact hK _ _ h
/-- a variable of whatever size is read -/
theorem wpList_load_box {ops : Array Oper} {rest : List Oper} {o : Oper} {a : Act} {Q : Exit → Act → World → Prop} (hgd : o.guard = none) (t : TypeId) (x : Operand) (ho : o.op = .load t x) (g off : Nat) (cs : List Value) (d : TypeDesc) (hu : P.underlying t = some d) (hd : d.isRow = true) (hsz : (P.info? t).map (·.size) = some cs.length)
    (hx : a.eval x = .pointer (some ⟨g, off, none⟩)) (hb : w.rangeAt g off cs)
    (h : wpList P ops Q rest (a.put o.dst (.agg cs.toArray)) w) : wpList P ops Q (o :: rest) a w := by
  refine wpList_plain hgd fun K hK => ?_
  have hr := run_loadAt_mid w g off t cs d hb hu hd hsz
  unfold Oper.wp execOp
  simp only [ho, hx, Sem.run_bind, hr, Result.andThen_ok]
  exact hK _ _ h
end
theorem Fr.setRow {T : Nat → Prop} {w w1 : World} (h : Fr T w w1) (g : Nat) (cs : Array Value) (hg : T g) : Fr T w (w1.setRow g cs) :=
  h.trans ⟨rfl, rfl, rfl, by simp, fun k _ ht => setRow_other _ _ _ _ (fun e => ht (e ▸ hg))⟩
end Go.Proofs.YtgnpohkippegpaaGreat

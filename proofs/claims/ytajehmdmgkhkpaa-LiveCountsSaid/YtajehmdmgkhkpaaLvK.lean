/-
  Layer 10's laws: what they share: acts as an argument, what holds of memory.
-/
import Derived.Test.YtajehmdmgkhkpaaLvJ
import Derived.Test.YtajehmdmgkhkpaaTail
namespace Go.Proofs.Ytajehmdmgkhkpaa
open Go.RowKit Geom Lv
open Go.ChangeShapes Go.WideShapes
set_option linter.unusedVariables false

/-- a place that is added, or dropped -/
structure Ac where
  dr : Bool
  p : Int
  b : Int
def acc (t : Ac) : List Value := [.bool t.dr, .int .i64 t.p, .int .i64 t.b]
def acl (ts : List Ac) : List Value := ts.flatMap acc
theorem acl_cons (t : Ac) (ts : List Ac) : acl (t :: ts) = acc t ++ acl ts := rfl
theorem acl_at {ts : List Ac} {k j : Nat} {t : Ac} {v : Value} (hk : ts[k]? = some t) (hv : (acc t)[j]? = some v) : (acl ts)[k * 3 + j]? = some v := by
  induction ts generalizing k with
  | nil => simp at hk
  | cons x ts ih =>
    rw [acl_cons]
    cases k with
    | zero =>
      obtain rfl : x = t := by simpa using hk
      have hj : j < (acc x).length := (List.getElem?_eq_some_iff.1 hv).1
      rw [Nat.zero_mul, Nat.zero_add, List.getElem?_append_left hj]
      exact hv
    | succ k =>
      have hx : (acc x).length = 3 := rfl
      rw [List.getElem?_append_right (by omega), hx, show (k + 1) * 3 + j - 3 = k * 3 + j by omega]
      exact ih (by simpa using hk)
theorem act_at {w : World} {B : Nat} {A : Option Addr} {ts : List Ac} {k : Nat} {t : Ac} (h : Rd w B A (acl ts)) (hk : ts[k]? = some t) :
    ∃ ad, A = some ad ∧ ad.block < B ∧ ∀ w' : World, (∀ p : Addr, p.block < B → w'.cell? p = w.cell? p) → w'.cell? (ad.add (k * 3)) = some (.bool t.dr) ∧ w'.cell? ⟨(ad.add (k * 3)).block, (ad.add (k * 3)).off + 1, none⟩ = some (.int .i64 t.p) ∧ w'.cell? ⟨(ad.add (k * 3)).block, (ad.add (k * 3)).off + 2, none⟩ = some (.int .i64 t.b) := by
  obtain ⟨ad, rfl, hb, hc⟩ := h.at (acl_at hk (j := 0) (v := .bool t.dr) rfl)
  have hf : ∀ j v, 1 ≤ j → (acc t)[j]? = some v → w.cell? ⟨(ad.add (k * 3)).block, (ad.add (k * 3)).off + j, none⟩ = some v := fun j v hj hv => by
    have e : (⟨(ad.add (k * 3)).block, (ad.add (k * 3)).off + j, none⟩ : Addr) = (ad.add (k * 3)).add j := by
      conv => rhs; unfold Addr.add
      rw [if_neg (by omega)]
      rfl
    rw [e, addr_add_add]
    obtain ⟨ad2, e2, _, h2⟩ := h.at (acl_at hk hv)
    obtain rfl : ad = ad2 := by injection e2
    exact h2
  refine ⟨ad, rfl, hb, fun w' hw => ⟨?_, ?_, ?_⟩⟩
  · rw [hw _ (by rw [addr_add_block]; exact hb)]
    exact hc
  · rw [hw _ (by rw [addr_add_block]; exact hb)]
    exact hf 1 _ (Nat.le_refl 1) rfl
  · rw [hw _ (by rw [addr_add_block]; exact hb)]
    exact hf 2 _ (by omega) rfl
theorem rows_acts {w : World} : ∀ (rows : List (List Value)), (∀ r ∈ rows, r.length = 3 ∧ Has (.pair 1 .bool (.pair 2 (.pair 1 (.int .i64) (.pair 1 (.int .i64) .nil)) .nil)) w r) → ∃ ts : List Ac, ts.length = rows.length ∧ rows.flatten = acl ts ∧ ∀ t ∈ ts, W64 t.p
  | [], _ => ⟨[], rfl, rfl, fun t h => absurd h List.not_mem_nil⟩
  | r :: rows, h => by
    obtain ⟨ts, h1, h2, h3⟩ := rows_acts rows fun x hx => h x (List.mem_cons_of_mem _ hx)
    obtain ⟨_, _, _, rfl, _, ⟨c, rfl⟩, _, _, rfl, _, ⟨_, _, rfl, _, ⟨p, rfl, hp⟩, _, _, rfl, _, ⟨b, rfl, _⟩, rfl⟩, rfl⟩ := h r List.mem_cons_self
    refine ⟨⟨c, p, b⟩ :: ts, by simp [h1], by rw [List.flatten_cons, h2]; rfl, fun t ht => ?_⟩
    rcases List.mem_cons.1 ht with rfl | ht
    · exact hp
    · exact h3 t ht
set_option maxRecDepth 100000 in
theorem open_acts {H : Type} {enc : TypeId × Value → H} {w : World} {base b0 : Nat} {r : Reach} {sp : Nat → Bool} {held : Bool} {v : Value} {d : DataW H} {ps : List MemPlace}
    (hu : Value.okWide Try.prog w r b0 24 v) (h : DataW.Trod enc Try.prog w base sp held 24 v d ps) :
    ∃ (A : Option Addr) (n cap : Nat) (ts : List Ac), v = .slice A n cap ∧ ts.length = n ∧ (∀ t ∈ ts, W64 t.p) ∧ Rd w w.heap.size A (acl ts) := by
  obtain ⟨a, len, cap, rfl⟩ := okWide_slice Try.underlying24 hu
  have hs := has_of (s := .slice 3 (.pair 1 .bool (.pair 2 (.pair 1 (.int .i64) (.pair 1 (.int .i64) .nil)) .nil))) 5 (by kernel_rfl) h
  obtain ⟨A, n, c, rows, h1, h2, h3, h4, h5, h6⟩ := hs
  obtain ⟨ts, h7, h8, h10⟩ := rows_acts rows h6
  have h9 : [Value.slice a len cap] = [.slice A n c] := h1
  obtain ⟨rfl, rfl, rfl⟩ : a = A ∧ len = n ∧ cap = c := by simpa using h9
  exact ⟨a, len, cap, ts, rfl, by omega, h10, by rw [← h8]; exact h5⟩

namespace Lv
def runA (seq size : Int) (ts : List Ac) : List (Int × Int) := ts.foldl (fun l t => (doM seq size l t.p t.b t.dr).1) []
theorem runA_snoc {seq size : Int} {ts : List Ac} {k : Nat} {t : Ac} (h : ts[k]? = some t) : runA seq size (ts.take (k + 1)) = (doM seq size (runA seq size (ts.take k)) t.p t.b t.dr).1 := by
  obtain ⟨hk, rfl⟩ := List.getElem?_eq_some_iff.1 h
  unfold runA
  rw [List.take_succ_eq_append_getElem hk, List.foldl_append]
  rfl
theorem wl_w64 {conv seq size : Int} {l : List (Int × Int)} (H : Some conv seq size) (h : Wl seq size l) : ∀ x ∈ l, W64 x.1 := fun x hx => by
  have h1 := h.2 x hx
  have h2 := seats_bd H
  exact w64_of (by omega) (by omega)
theorem lit_yes {conv soft seq size opn : Int} (h : litB conv soft seq size opn = true) : Ok conv soft seq size opn ∧ Some conv seq size ∧ (0 ≤ soft ∧ soft ≤ 65536) ∧ conv + seq ≤ 14 ∧ size ≤ 24 := by
  unfold litB okB at h
  simp only [Bool.and_eq_true, decide_eq_true_eq] at h
  obtain ⟨⟨h1, h2⟩, h3⟩ := h
  have hp := pages_bd h1.some
  obtain ⟨_, _, _, _, _, _, h4, h5⟩ := id h1
  exact ⟨h1, h1.some, ⟨by omega, h5⟩, h2, h3⟩
end Lv
/-- what the laws hold of memory: nothing that came in has changed; what is live -/
def LSv (w w' : World) (d b c m : Nat) (conv soft seq size opn : Int) (l : List (Int × Int)) : Prop := Below w.heap.size w w' ∧ LvIs w' d b c m conv soft seq size opn l ∧ w.heap.size ≤ b ∧ w.heap.size ≤ c
section
variable {w w1 w2 : World} {d b c m m' : Nat} {conv soft seq size opn : Int} {l l' : List (Int × Int)}
theorem LSv.drew (h : LSv w w1 d b c m conv soft seq size opn l) : LSv w w1.drew d b c m conv soft seq size opn l := ⟨h.1.drew, h.2.1.drew, h.2.2⟩
theorem LSv.drewN (h : LSv w w1 d b c m conv soft seq size opn l) (q : Nat) : LSv w (w1.drewN q) d b c m conv soft seq size opn l := ⟨below_draws h.1 q, h.2.1.drewN q, h.2.2⟩
theorem LSv.on (h : LSv w w1 d b c m conv soft seq size opn l) (hb : Below w1.heap.size w1 w2) : LSv w w2 d b c m conv soft seq size opn l := ⟨h.1.trans (hb.mono h.1.size), h.2.1.on hb, h.2.2⟩
theorem LSv.put (h : LSv w w1 d b c m conv soft seq size opn l) (t : LvIs w2 d b c m' conv soft seq size opn l') (f : Fr (TwB b c) w1 w2) : LSv w w2 d b c m' conv soft seq size opn l' :=
  ⟨h.1.trans (f.below h.1.size (fun k hk hT => by have := h.2.2; rcases hT with rfl | rfl <;> omega)), t, h.2.2⟩
theorem MapIi.ne_cell {g : Int → Option Value} {x k : Nat} {u : Value} (h : MapIi w b m g) (hx : w.cell? ⟨x, k, none⟩ = some u) : x ≠ b := by
  rintro rfl
  obtain ⟨es, clock, h2⟩ := h.is_map
  simp [World.cell?, h2] at hx
/-- a list of cells is in no map -/
theorem ClIs.fr {V : Value} {r : List (Int × Int)} (h : ClIs w1 V r) (t : LvIs w1 d b c m conv soft seq size opn l) (f : Fr (TwB b c) w1 w2) : ClIs w2 V r := by
  obtain ⟨A, k, h1, h2, h3, h4⟩ := h
  refine ⟨A, k, h1, h2, h3, fun hn => ?_⟩
  obtain ⟨ad, rfl, hb, hc⟩ := h4 hn
  refine ⟨ad, rfl, Nat.lt_of_lt_of_le hb f.size, fun j u hu => ?_⟩
  have hcu := hc j u hu
  rw [f.cell (by rw [addr_add_block]; exact hb) ?_]
  · exact hcu
  · obtain ⟨g, hg, _⟩ := t.ct
    intro hT
    generalize ad.add j = p at hcu hT
    obtain ⟨pb, po, pm⟩ := p
    rcases hT with hT | hT
    · simp only at hT
      subst hT
      obtain ⟨es, clock, h5⟩ := t.mp.is_map
      simp [World.cell?, h5] at hcu
    · simp only at hT
      subst hT
      obtain ⟨es, clock, h5⟩ := hg.is_map
      simp [World.cell?, h5] at hcu
end
end Go.Proofs.Ytajehmdmgkhkpaa

/-
  RecF Mix RecG RecK
-/
import Derived.Test.YtgnpohkippegpaaMg24
import Derived.WalkKit
import Derived.Test.YtgnpohkippegpaaMg20
import Derived.Test.YtgnpohkippegpaaMg05
/-
  'awake' of layer 6 answers true.
-/
namespace Go.Proofs.Ytgnpohkippegpaa
open Go.RowKit Word Crc Rec
set_option linter.unusedVariables false

/-- an array or a struct built of parts, what comes of it being known -/
theorem wpList_build_known {P : Program} {w : World} {ops : Array Oper} {rest : List Oper} {o : Oper} {a : Act} {Q : Exit → Act → World → Prop} (hgd : o.guard = none) (t : TypeId) (ps : Array (Nat × Operand)) (vs : Array (Nat × Value)) (ho : o.op = .build t ps) (hv : (ps.map fun (i, x) => (i, a.eval x)) = vs) (cs : List Value) (hb : ∀ w, (Instr.build t vs).run P w = .ok (.agg cs.toArray) w)
    (h : wpList P ops Q rest (a.put o.dst (.agg cs.toArray)) w) : wpList P ops Q (o :: rest) a w := by
  refine wpList_plain hgd fun K hK => ?_
  unfold Oper.wp execOp
  simp only [ho, Sem.run_bind]
  have e : (ps.map fun x => (x.1, a.eval x.2)) = vs := hv
  rw [e, hb w]
  simp only [Result.andThen_ok]
  exact hK _ _ h

abbrev recA : Rc := ⟨1, 3, 9, 5, 0, 7 :: List.replicate 31 0⟩
theorem recA_ok : Ok recA := by decide
theorem recA_in : In recA := ⟨by decide, by unfold octets; decide⟩
theorem recA_lay : (layL recA).getD 0 0 = 1 ∧ (layL recA).getD 1 0 = 3 ∧ (layL recA).getD 9 0 = 9 ∧ (layL recA).getD 17 0 = 5 ∧ (layL recA).getD 25 0 = 7 := by decide +kernel
theorem pg0_right : rightB pg0 = false := by decide +kernel
theorem read_pg0 : readS pg0 = (rc0, 8) := by unfold readS; rw [if_pos pg0_right]
end Go.Proofs.Ytgnpohkippegpaa

/-
  A row laid over another from the front. Nothing here speaks of one program.
-/
namespace Go.Proofs.Ytgnpohkippegpaa
/-- a row laid over another from the front -/
def mix (S p : List Int) (n : Nat) : List Int := S.take n ++ p.drop n
theorem mix_length {S p : List Int} {n : Nat} (h : S.length = p.length) (hn : n ≤ p.length) : (mix S p n).length = p.length := by simp [mix, h]; omega
theorem mix_set {S p : List Int} {n : Nat} (h : S.length = p.length) (hn : n < p.length) : (mix S p n).set n (S.getD n 0) = mix S p (n + 1) := by
  unfold mix
  have e : (S.take n).length = n := by simp; omega
  rw [List.set_append_right _ _ (by omega), e, Nat.sub_self, List.drop_eq_getElem_cons hn, List.set_cons_zero, List.take_succ_eq_append_getElem (by omega), List.append_assoc]
  simp [List.getD_eq_getElem?_getD, List.getElem?_eq_getElem (show n < S.length by omega)]
theorem mix_all {S p : List Int} {n : Nat} (h : S.length = p.length) (hn : n = p.length) : mix S p n = S := by
  unfold mix
  rw [List.drop_eq_nil_of_le (by omega), List.append_nil, List.take_of_length_le (by omega)]
theorem mix_zero (S p : List Int) : mix S p 0 = p := by simp [mix]
end Go.Proofs.Ytgnpohkippegpaa

/-
  Layer 6: the arguments opened; the law's 'sealed'.
-/
namespace Go.Proofs.Ytgnpohkippegpaa
open Go.RowKit Word Crc Rec
set_option linter.unusedVariables false

set_option maxRecDepth 100000 in
theorem open_page {H : Type} {enc : TypeId × Value → H} {w : World} {base b0 : Nat} {r : Reach} {sp : Nat → Bool} {held : Bool} {v : Value} {d : DataW H} {ps : List MemPlace}
    (hu : Value.okWide Try.prog w r b0 45 v) (h : DataW.Trod enc Try.prog w base sp held 45 v d ps) : ∃ p : List Int, v = .agg (bs p).toArray ∧ p.length = 64 ∧ octets p := by
  obtain ⟨cs, rfl, hs⟩ := has_agg (s := .rep 64 1 (.int .u8)) 3 (by kernel_rfl) h hu (.inr ⟨_, _, Try.underlying45⟩)
  obtain ⟨ws, h1, rfl, h3⟩ := has_ints hs
  exact ⟨ws, rfl, h1, wf_u8 h3⟩
def sealedP (p : List Int) : List Int := sealed (p.take 60)
theorem sealedP_length {p : List Int} (h : p.length = 64) : (sealedP p).length = 64 := by unfold sealedP; rw [sealed_length]; simp [h]
theorem sealedP_octets {p : List Int} (h : octets p) : octets (sealedP p) := sealed_octets fun z hz => h z (List.mem_of_mem_take hz)
theorem sealedP_mix {p : List Int} (h : p.length = 64) : mix (sealedP p) p 60 = p := by
  unfold mix sealedP
  rw [sealed_take _ 60 (by simp [h]), List.take_append_drop]

/-- a page, and the answer's page beside it -/
def PgSt (w W : World) (p : List Int) : Prop := Box W w.heap.size 45 (bs p) ∧ Box W (w.heap.size + 1) 45 (bs pg0) ∧ Below w.heap.size w W ∧ w.heap.size + 2 ≤ W.heap.size
theorem PgSt.on {w W W' : World} {p : List Int} (h : PgSt w W p) (hb : Below W.heap.size W W') : PgSt w W' p := ⟨h.1.on hb, h.2.1.on hb, bthen h.2.2.1 hb, Nat.le_trans h.2.2.2 hb.size⟩
theorem PgSt.start {w w1 w2 : World} {p : List Int} (x0 : Box w1 w.heap.size 45 (bs p)) (hB1 : Below w.heap.size w w1) (hs1 : w1.heap.size = w.heap.size + 1) (x1 : Box w2 w1.heap.size 45 (bs pg0)) (hB2 : Below w1.heap.size w1 w2) (hs2 : w2.heap.size = w1.heap.size + 1) : PgSt w w2 p := by
  rw [hs1] at x1
  exact ⟨x0.below hB2 (by omega), x1, bthen hB1 hB2, by omega⟩
theorem PgSt.set {w W : World} {p : List Int} (h : PgSt w W p) (n : Nat) (v : Int) : PgSt w (W.setCell ⟨w.heap.size, n, none⟩ (.int .u8 v)) (p.set n v) := by
  refine ⟨?_, h.2.1.same (heap_setCell_other _ _ _ _ (show w.heap.size + 1 ≠ w.heap.size by omega)), h.2.2.1.setCell (Nat.le_refl _) _, by have := h.2.2.2; simpa [World.setCell] using this⟩
  have := h.1.set n (.int .u8 v)
  rwa [← bs_set] at this
theorem PgSt.rd {w W : World} {p : List Int} (h : PgSt w W p) (hp : p.length = 64) : Rd W W.heap.size (some ⟨w.heap.size, 0, none⟩) (bs p) := Rd.own (h.1.own (n := 64) (by rw [bs_length, hp]) (by decide) 0 (Nat.zero_le _))

end Go.Proofs.Ytgnpohkippegpaa

/-
  The document's answers for layer 6: low, high, Summed.
-/
namespace Go.Proofs.Ytgnpohkippegpaa
open Go.RowKit Word Crc Rec
set_option linter.unusedVariables false

/-- a page in a variable of its own, its block counted -/
def OneSt' (w W : World) (p : List Int) : Prop := Box W w.heap.size 45 (bs p) ∧ Below w.heap.size w W ∧ w.heap.size + 1 ≤ W.heap.size
theorem OneSt'.on {w W W' : World} {p : List Int} (h : OneSt' w W p) (hb : Below W.heap.size W W') : OneSt' w W' p := ⟨h.1.on hb, bthen h.2.1 hb, Nat.le_trans h.2.2 hb.size⟩
theorem OneSt'.grew {w W W' : World} {p : List Int} (h : OneSt' w W p) (hb : Below (w.heap.size + 1) W W') : OneSt' w W' p := ⟨h.1.below hb (by omega), h.2.1.trans (hb.mono (by omega)), Nat.le_trans h.2.2 hb.size⟩

theorem horn_zero (zs : List Int) (at_ n : Nat) : horn zs at_ 0 n = get zs at_ n := by simp [horn, Word.get]
theorem horn_all (zs : List Int) (at_ n : Nat) : horn zs at_ n n = 0 := by simp [horn, val]
theorem horn_up (zs : List Int) (at_ k n : Nat) (hb : octets zs) (hk : k ≤ n) (h : at_ + n ≤ zs.length) : horn zs at_ k n ≤ horn zs at_ 0 n := by
  induction k with
  | zero => exact Int.le_refl _
  | succ k ih =>
    refine Int.le_trans ?_ (ih (by omega))
    rw [horn_step zs at_ k n (by omega) h]
    have h1 := horn_bounds zs at_ (k + 1) n hb
    have h2 := octets_getD hb (at_ + k)
    omega

theorem summed_all (S p : List Int) (hS : S.length = 64) (hp : p.length = 64) (h60 : S.take 60 = p.take 60) (h : ∀ j, 60 ≤ j → j < 64 → S.getD j 0 = p.getD j 0) : S = p := by
  apply List.ext_getElem (by omega)
  intro i h1 h2
  by_cases hi : i < 60
  · have e := congrArg (fun l => l[i]?) h60
    simp only [List.getElem?_take, hi, if_true] at e
    rw [List.getElem?_eq_getElem h1, List.getElem?_eq_getElem h2] at e
    injection e
  · have := h i (by omega) (by omega)
    simpa [List.getD_eq_getElem?_getD, List.getElem?_eq_getElem h1, List.getElem?_eq_getElem h2] using this
end Go.Proofs.Ytgnpohkippegpaa

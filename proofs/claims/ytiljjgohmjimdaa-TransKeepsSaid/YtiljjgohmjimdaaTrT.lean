/-
  The answer's Put of layer 18.
-/
import Derived.Test.YtiljjgohmjimdaaTrS
namespace Go.Proofs.Ytiljjgohmjimdaa
open Go.RowKit Word Tran
set_option linter.unusedVariables false

theorem rp_box {w : World} {b : Nat} {T : TypeId} {u v V : Value} (h : Box w b T [u, v, V]) : w.cell? ⟨b, 0, none⟩ = some u ∧ w.cell? ⟨b, 1, none⟩ = some v ∧ w.cell? ⟨b, 2, none⟩ = some V := ⟨h.cell 0, h.cell 1, h.cell 2⟩
theorem rp_one (a b : Int) (A : Option Addr) (n c : Nat) : ∀ u ∈ [Value.int .i64 a, .int .i64 b, .slice A n c], u.oneCell' = true := by
  intro u hu
  simp at hu
  rcases hu with rfl | rfl | rfl <;> rfl
theorem rp_size (a b : Int) (A : Option Addr) (n c : Nat) : (Try.prog.info? 27).map (·.size) = some [Value.int .i64 a, .int .i64 b, .slice A n c].length := tn_size tz
theorem rp_len (a b : Int) (A : Option Addr) (n c : Nat) : (tnc tz).length = [Value.int .i64 a, .int .i64 b, .slice A n c].length := rfl
theorem rp_elt {w : World} {B k m : Nat} {ad : Addr} {l : List Wt} {o : Wt} (hr : Rd w B (some ad) (tws l)) (hin : ∀ o ∈ l, WIn o) (hk : l[k]? = some o) (hm : m = 34) : w.cell? (ad.add (k * m)) = some (.int .i64 o.b) := by
  obtain ⟨ad2, e, _, h⟩ := wt_b (m := m) hr hin hk hm
  injection e with e
  rw [e]
  exact h
theorem rp_load {w : World} {B k m : Nat} {ad : Addr} {l : List Wt} {o : Wt} (hr : Rd w B (some ad) (tws l)) (hin : ∀ o ∈ l, WIn o) (hk : l[k]? = some o) (hm : m = 34) : (loadCellsFrom (ad.add (k * m)) 0 m #[]).run Try.prog w = .ok (twc o).toArray w := by
  obtain ⟨ad2, e, h, _⟩ := wt_load (m := m) hr hin hk hm
  injection e with e
  rw [e]
  exact h
theorem wpList_build_zero2 {P : Program} (w : World) {ops : Array Oper} {rest : List Oper} {o : Oper} {a : Act} {Q : Exit → Act → World → Prop} (hgd : o.guard = none) (t : TypeId) (x0 x1 : Operand) (v0 : Value) (ho : o.op = .build t #[(0, x0), (1, x1)]) (cs : List Value) {v1 : Value} (hb : ∀ w, (Instr.build t #[(0, v0), (1, v1)]).run P w = .ok (.agg cs.toArray) w) (h0 : a.eval x0 = v0) (h1 : a.eval x1 = v1)
    (h : wpList P ops Q rest (a.put o.dst (.agg cs.toArray)) w) : wpList P ops Q (o :: rest) a w := by
  refine wpList_plain hgd fun K hK => ?_
  unfold Oper.wp
  simp [execOp, ho, h0, h1, hb w, Result.andThen]
  exact hK _ _ h
theorem tv2 {id bg : Int} {ws : List Wt} {A : Option Addr} {c n : Nat} (h : ws.length = n) : tval ⟨⟨id, bg, ws⟩, A, c⟩ = .agg #[.int .i64 id, .int .i64 bg, .slice A n c] := by
  subst h
  rfl
/-- the variables of the answer's Put at its beginning -/
structure RpA (w wr : World) (x : Tv) (y : Wt) : Prop where
  b0 : Box wr w.heap.size 27 (tnc x)
  b1 : Box wr (w.heap.size + 1) 49 (twc y)
  b2 : Box wr (w.heap.size + 1 + 1) 27 (tnc tz)
  sz : wr.heap.size = w.heap.size + 1 + 1 + 1
  below : Below w.heap.size w wr
theorem RpA.put {w wr w' : World} {x : Tv} {y q : Wt} (h : RpA w wr x y) (hx : Box w' (w.heap.size + 1) 49 (twc q)) (hg : wr.grownBy w' (some (w.heap.size + 1))) (hs : w'.heap.size = wr.heap.size) : RpA w w' x q :=
  ⟨h.b0.grown hg (by omega), hx, h.b2.grown hg (by omega), hs.trans h.sz, below_stored h.below hg h.below.size (by omega)⟩
/-- what stands in memory while the answer's Put works -/
structure RpSt (w wr : World) (x : Tv) (q : Wt) (V : Value) (O : List Wt) : Prop where
  b0 : Box wr w.heap.size 27 (tnc x)
  b1 : Box wr (w.heap.size + 1) 49 (twc q)
  b2 : Box wr (w.heap.size + 1 + 1) 27 (tnc tz)
  b3 : Box wr (w.heap.size + 1 + 1 + 1) 27 [.int .i64 x.t.id, .int .i64 x.t.bg, V]
  own : wr.ownsRow (w.heap.size + 1 + 1 + 1 + 1) 49 34 V O.length (tws O)
  below : Below w.heap.size w wr
section
variable {w wr w' : World} {x : Tv} {y q : Wt} {V V' : Value} {O : List Wt} {z : Wt}
theorem RpA.start {w5 : World} {id bg : Int} {ws : List Wt} {A : Option Addr} {cap : Nat} (h : RpA w wr ⟨⟨id, bg, ws⟩, A, cap⟩ y) (hb : Below wr.heap.size wr w5) (hx : Box w' (w.heap.size + 1 + 1 + 1) 27 [.int .i64 id, .int .i64 bg, .slice none 0 0]) (hg : w5.grownBy w' (some (w.heap.size + 1 + 1 + 1))) (e : y = q := by rfl) :
    RpSt w w' ⟨⟨id, bg, ws⟩, A, cap⟩ q (.slice none 0 0) [] := by
  subst e
  have k := bthen h.below hb
  exact ⟨(h.b0.on hb).grown hg (by omega), (h.b1.on hb).grown hg (by omega), (h.b2.on hb).grown hg (by omega), hx, World.ownsRow_nil _ _ _ _, below_stored k hg k.size (by omega)⟩
theorem RpSt.on (h : RpSt w wr x q V O) (hb : Below wr.heap.size wr w') : RpSt w w' x q V O := ⟨h.b0.on hb, h.b1.on hb, h.b2.on hb, h.b3.on hb, own_below h.own hb, bthen h.below hb⟩
theorem RpSt.far (h : RpSt w wr x q V O) : ∀ b, V.ownBlock = some b → w.heap.size + 1 + 1 + 1 < b := fun b hb => by have := (h.own.lt b hb).1; omega
theorem RpSt.keep {b : Nat} {T : TypeId} {cs : List Value} (h : RpSt w wr x q V O) (hg : wr.grownBy w' V.ownBlock) (hx : Box wr b T cs) (hb : b ≤ w.heap.size + 1 + 1 + 1) : Box w' b T cs :=
  hx.same (hg.block _ hx.lt fun e => by have := h.far b e.symm; omega)
/-- the variable of what is answered, behind an append -/
theorem RpSt.boxes (h : RpSt w wr x q V O) (hg : wr.grownBy w' V.ownBlock) : Box w' (w.heap.size + 1 + 1 + 1) 27 [.int .i64 x.t.id, .int .i64 x.t.bg, V] := h.keep hg h.b3 (Nat.le_refl _)
theorem RpSt.box0 (h : RpSt w wr x q V O) (hg : wr.grownBy w' V.ownBlock) : Box w' w.heap.size 27 (tnc x) := h.keep hg h.b0 (by omega)
theorem RpSt.put (h : RpSt w wr x q V O) (hg : wr.grownBy w' V.ownBlock) (hown : w'.ownsRow (w.heap.size + 1 + 1 + 1 + 1) 49 34 V' (O.length + 1) (tws O ++ twc z)) :
    RpSt w (w'.setCell ⟨w.heap.size + 1 + 1 + 1, 2, none⟩ V') x q V' (O ++ [z]) := by
  have h3 := h.boxes hg
  have kb : Below w.heap.size w w' := h.below.grown hg h.below.size fun k hk => by have := h.far k hk; omega
  have hl : (O ++ [z]).length = O.length + 1 := by simp
  have ht : tws (O ++ [z]) = tws O ++ twc z := by rw [tws_append, tws_single]
  refine ⟨(h.box0 hg).grown set_grown (by omega), (h.keep hg h.b1 (by omega)).grown set_grown (by omega), (h.keep hg h.b2 (by omega)).grown set_grown (by omega), h3.set 2 _, ?_, below_stored kb set_grown kb.size (by omega)⟩
  rw [hl, ht]
  exact trow_kept hown set_grown fun b hb e => by
    injection e with e
    have := (hown.lt b hb).1
    omega
theorem RpSt.fin {w8 : World} {A : Option Addr} {c n : Nat} {cs : List Value} (h : RpSt w wr x q (.slice A n c) O) (hn : O.length = n) (hx : Box w8 (w.heap.size + 1 + 1) 27 cs) (hg : wr.grownBy w8 (some (w.heap.size + 1 + 1))) : w8.ownsRow w.heap.size 49 34 (.slice A O.length c) O.length (tws O) ∧ Below w.heap.size w w8 := by
  subst hn
  exact ⟨own_base0 (trow_kept h.own hg fun b hb e => by
    injection e with e
    have := (h.own.lt b hb).1
    omega) (by omega), below_stored h.below hg h.below.size (by omega)⟩
end
end Go.Proofs.Ytiljjgohmjimdaa

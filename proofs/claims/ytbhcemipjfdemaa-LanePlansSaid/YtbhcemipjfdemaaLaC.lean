/-
  The document's answer for layer 12: Plan.
-/
import Derived.Test.YtbhcemipjfdemaaLaB
namespace Go.Proofs.Ytbhcemipjfdemaa
open Go.RowKit Geom Leaf Pol
set_option linter.unusedVariables false

def MeetQ (A : Nat → Nat → Nat → Nat → Act) (R : World → Nat → Nat → Nat → Nat → Prop) : Exit → Act → World → Prop
  | .normal, a, w => ∃ b g gz cz, R w b g gz cz ∧ a = A b g gz cz
  | _, _, _ => False
theorem wp_meetQ {P : Program} {c : Code} {Q : Exit → Act → World → Prop} {a : Act} {w : World} {A : Nat → Nat → Nat → Nat → Act} (R : World → Nat → Nat → Nat → Nat → Prop) (h : c.wp P (MeetQ A R) a w) (h2 : ∀ w' b g gz cz, R w' b g gz cz → Q .normal (A b g gz cz) w') : c.wp P Q a w :=
  Code.wp_mono (fun e a' w' hm => by
    cases e <;> first | exact (hm : False).elim | (obtain ⟨b, g, gz, cz, hr, rfl⟩ := (hm : ∃ b g gz cz, R w' b g gz cz ∧ a' = A b g gz cz); exact h2 _ b g gz cz hr)) h
/-- a row of numbers: the one that was there, or a new one -/
def RowR (w w' : World) (A0 A : Option Addr) (n c : Nat) (qs : List Int) : Prop :=
  (A = A0 ∧ Rd w' w.heap.size A (is qs)) ∨ ∃ g, A = some ⟨g, 0, none⟩ ∧ w'.ownsRow (w.heap.size + 1 + 1 + 1) 3 1 (.slice A n c) n (is qs)
section
variable {w w' w2 : World} {A0 A : Option Addr} {n c b : Nat} {qs : List Int}
theorem RowR.below (h : RowR w w' A0 A n c qs) (hw : w.heap.size ≤ w'.heap.size) (hb : Below w'.heap.size w' w2) : RowR w w2 A0 A n c qs := by
  rcases h with ⟨e, h⟩ | ⟨g, rfl, h⟩
  · exact .inl ⟨e, h.below (hb.mono hw)⟩
  · exact .inr ⟨g, rfl, own_below h hb⟩
theorem RowR.rd (h : RowR w w' A0 A n c qs) (hw : w.heap.size ≤ w'.heap.size) : Rd w' w'.heap.size A (is qs) := by
  rcases h with ⟨_, h⟩ | ⟨g, rfl, h⟩
  · exact h.more hw
  · exact Rd.own h
theorem RowR.var {T : TypeId} {cs : List Value} (h : RowR w w' A0 A n c qs) (hw : w.heap.size ≤ w'.heap.size) (hx : Box w' b T cs) (hT : T ≠ 3) (hb : w.heap.size ≤ b) (hg : w'.grownBy w2 (some b)) : RowR w w2 A0 A n c qs := by
  rcases h with ⟨e, h⟩ | ⟨g, rfl, h⟩
  · exact .inl ⟨e, h.below ((Below.refl _ _).grown hg hw (fun k hk => by injection hk with hk; omega))⟩
  · exact .inr ⟨g, rfl, own_var h hx hT hg⟩
theorem RowR.swell {sz m base : Nat} {e' : TypeId} {V : Value} {ys : List Value} (h : RowR w w' A0 A n c qs) (hn : 0 < n) (hw : w.heap.size ≤ w'.heap.size) (h' : w'.ownsRow base e' sz V m ys) (hbs : w.heap.size ≤ base) (he : 3 ≠ e') (hg : w'.grownBy w2 V.ownBlock) : RowR w w2 A0 A n c qs := by
  rcases h with ⟨e, h⟩ | ⟨g, rfl, h⟩
  · exact .inl ⟨e, h.below ((Below.refl _ _).grown hg hw (fun k hk => by have := (h'.lt k hk).1; omega))⟩
  · exact .inr ⟨g, rfl, row_swell h h' hn he hg⟩
end
/-- the same, as a contract says it -/
def RowQ (B : Nat) (w' : World) (A0 A : Option Addr) (n c : Nat) (qs : List Int) : Prop :=
  (A = A0 ∧ Rd w' B A (is qs)) ∨ ∃ g, A = some ⟨g, 0, none⟩ ∧ w'.ownsRow B 3 1 (.slice A n c) n (is qs)
theorem RowR.q {w w' : World} {A0 A : Option Addr} {n c : Nat} {qs : List Int} (h : RowR w w' A0 A n c qs) : RowQ w.heap.size w' A0 A n c qs := by
  rcases h with h | ⟨g, e, h⟩
  · exact .inl h
  · exact .inr ⟨g, e, own_base0 h (by omega)⟩
theorem RowQ.rd {w' : World} {B : Nat} {A0 A : Option Addr} {n c : Nat} {qs : List Int} (h : RowQ B w' A0 A n c qs) (hw : B ≤ w'.heap.size) : Rd w' w'.heap.size A (is qs) := by
  rcases h with ⟨_, h⟩ | ⟨g, rfl, h⟩
  · exact h.more hw
  · exact Rd.own h
/-- what stands in memory while the answer's Plan goes on: the measure, the pool, the result's variable, the pool's variable, the places -/
structure RfSt (w w' : World) (b : Nat) (conv soft seq size opn : Int) (A : Option Addr) (n cap : Nat) (h0 h1 h2 : Int) (A' : Option Addr) (c' : Nat) (qs : List Int) (k0 k1 k2 : Int) (V : Value) (l : List (Int × Int)) : Prop where
  gp : GP w w' conv soft seq size opn A n cap h0 h1 h2
  rs : Box w' (w.heap.size + 1 + 1) 27 (plcs none 0 0 0 0 0)
  q : Box w' b 27 (plcs A' n c' k0 k1 k2)
  row : RowR w w' A A' n c' qs
  out : w'.ownsRow (w.heap.size + 1 + 1 + 1) 48 2 V l.length (ccs l)
  hb : w.heap.size + 1 + 1 < b
section
variable {w w' w2 : World} {b : Nat} {conv soft seq size opn : Int} {A : Option Addr} {n cap : Nat} {h0 h1 h2 : Int} {A' : Option Addr} {c' : Nat} {qs : List Int} {k0 k1 k2 : Int} {V : Value} {l : List (Int × Int)}
theorem RfSt.on (h : RfSt w w' b conv soft seq size opn A n cap h0 h1 h2 A' c' qs k0 k1 k2 V l) (hb : Below w'.heap.size w' w2) : RfSt w w2 b conv soft seq size opn A n cap h0 h1 h2 A' c' qs k0 k1 k2 V l :=
  ⟨h.gp.below hb, h.rs.on hb, h.q.on hb, h.row.below h.gp.2.2.size hb, own_below h.out hb, h.hb⟩
/-- a place more: the row of places grows -/
theorem RfSt.more {V2 : Value} {z x : Int} (h : RfSt w w' b conv soft seq size opn A n cap h0 h1 h2 A' c' qs k0 k1 k2 V l) (hn : 0 < n) (hg : w'.grownBy w2 V.ownBlock) (ho : w2.ownsRow (w.heap.size + 1 + 1 + 1) 48 2 V2 (l.length + 1) (ccs l ++ [.int .i64 z, .int .i64 x])) :
    RfSt w w2 b conv soft seq size opn A n cap h0 h1 h2 A' c' qs k0 k1 k2 V2 (l ++ [(z, x)]) := by
  refine ⟨?_, box_swell h.rs h.out (by decide) hg, box_swell h.q h.out (by decide) hg, h.row.swell hn h.gp.2.2.size h.out (by omega) (by decide) hg, by rw [ccs_append, List.length_append]; exact ho, h.hb⟩
  cases hV : V.ownBlock with
  | none =>
    rw [hV] at hg
    exact h.gp.below ((Below.refl _ _).grown hg (Nat.le_refl _) (fun k hk => by cases hk))
  | some k =>
    rw [hV] at hg
    have := (h.out.lt k hV).1
    exact h.gp.grown hg (by omega)
/-- the pool's variable takes a new pool -/
theorem RfSt.put {g2 c2 : Nat} {qs2 : List Int} {m0 m1 m2 : Int} (h : RfSt w w' b conv soft seq size opn A n cap h0 h1 h2 A' c' qs k0 k1 k2 V l) (ho : w'.ownsRow (w.heap.size + 1 + 1 + 1) 3 1 (.slice (some ⟨g2, 0, none⟩) n c2) n (is qs2))
    (hx : Box w2 b 27 (plcs (some ⟨g2, 0, none⟩) n c2 m0 m1 m2)) (hg : w'.grownBy w2 (some b)) : RfSt w w2 b conv soft seq size opn A n cap h0 h1 h2 (some ⟨g2, 0, none⟩) c2 qs2 m0 m1 m2 V l := by
  have h1' := h.hb
  exact ⟨h.gp.grown hg (by omega), h.rs.grown hg (by omega), hx, .inr ⟨g2, rfl, own_var ho h.q (by decide) hg⟩, own_var h.out h.q (by decide) hg, h.hb⟩
end
theorem two_at {wr w6 : World} (hb : Below (((wr.alloc (.cells #[.int .i64 0, .int .i64 0] 48)).alloc (.cells #[.slice none 0 0, .int .i64 0, .int .i64 0, .int .i64 0] 27)).drew).heap.size (((wr.alloc (.cells #[.int .i64 0, .int .i64 0] 48)).alloc (.cells #[.slice none 0 0, .int .i64 0, .int .i64 0, .int .i64 0] 27)).drew) w6) :
    Box w6 wr.heap.size 48 (pacl 0 0) ∧ Box w6 (wr.heap.size + 1) 27 (plcs none 0 0 0 0 0) := by
  have x1 := ((Box.new wr 48 (pacl 0 0)).alloc (.cells #[.slice none 0 0, .int .i64 0, .int .i64 0, .int .i64 0] 27)).drew1.on hb
  have x2 := (Box.new (wr.alloc (.cells #[.int .i64 0, .int .i64 0] 48)) 27 (plcs none 0 0 0 0 0)).drew1.on hb
  rw [show (wr.alloc (.cells #[.int .i64 0, .int .i64 0] 48)).heap.size = wr.heap.size + 1 by simp] at x2
  exact ⟨x1, x2⟩
theorem two_pa {wr w6 : World} (hb : Below (((wr.alloc (.cells #[.slice none 0 0, .int .i64 0, .int .i64 0, .int .i64 0] 27)).alloc (.cells #[.int .i64 0, .int .i64 0] 48)).drew).heap.size (((wr.alloc (.cells #[.slice none 0 0, .int .i64 0, .int .i64 0, .int .i64 0] 27)).alloc (.cells #[.int .i64 0, .int .i64 0] 48)).drew) w6) :
    Box w6 (wr.heap.size + 1) 48 (pacl 0 0) ∧ Box w6 wr.heap.size 27 (plcs none 0 0 0 0 0) := by
  have x1 := ((Box.new wr 27 (plcs none 0 0 0 0 0)).alloc (.cells #[.int .i64 0, .int .i64 0] 48)).drew1.on hb
  have x2 := (Box.new (wr.alloc (.cells #[.slice none 0 0, .int .i64 0, .int .i64 0, .int .i64 0] 27)) 48 (pacl 0 0)).drew1.on hb
  rw [show (wr.alloc (.cells #[.slice none 0 0, .int .i64 0, .int .i64 0, .int .i64 0] 27)).heap.size = wr.heap.size + 1 by simp] at x2
  exact ⟨x2, x1⟩
/-- two stores into a place's variable; four into a pool's -/
theorem chain2 {W wr : World} {ba bp base m : Nat} {z x : Int} {cs xs : List Value} {v : Value} (XA : Box W ba 48 (pacl 0 0)) (XP : Box W bp 27 cs) (O : W.ownsRow base 3 1 v m xs) (B : Below wr.heap.size wr W) (hb : wr.heap.size ≤ ba) :
    (W.cell? ⟨ba, 0, none⟩ = some (.int .i64 0) ∧ W.frozen? ⟨ba, 0, none⟩ = false ∧ (W.setCell ⟨ba, 0, none⟩ (.int .i64 z)).cell? ⟨ba, 1, none⟩ = some (.int .i64 0) ∧ (W.setCell ⟨ba, 0, none⟩ (.int .i64 z)).frozen? ⟨ba, 1, none⟩ = false) ∧
    Box ((W.setCell ⟨ba, 0, none⟩ (.int .i64 z)).setCell ⟨ba, 1, none⟩ (.int .i64 x)) ba 48 (pacl z x) ∧ Box ((W.setCell ⟨ba, 0, none⟩ (.int .i64 z)).setCell ⟨ba, 1, none⟩ (.int .i64 x)) bp 27 cs ∧
    ((W.setCell ⟨ba, 0, none⟩ (.int .i64 z)).setCell ⟨ba, 1, none⟩ (.int .i64 x)).ownsRow base 3 1 v m xs ∧ Below wr.heap.size wr ((W.setCell ⟨ba, 0, none⟩ (.int .i64 z)).setCell ⟨ba, 1, none⟩ (.int .i64 x)) := by
  have hne : bp ≠ ba := XP.ne XA (by decide)
  have X1 : Box (W.setCell ⟨ba, 0, none⟩ (.int .i64 z)) ba 48 (pacl z 0) := XA.set 0 _
  have g0 := pgrown_cell W ⟨ba, 0, none⟩ (.int .i64 z)
  have g1 := pgrown_cell (W.setCell ⟨ba, 0, none⟩ (.int .i64 z)) ⟨ba, 1, none⟩ (.int .i64 x)
  exact ⟨⟨XA.cell 0, XA.frozen 0, X1.cell 1, X1.frozen 1⟩, X1.set 1 _, (XP.grown g0 hne).grown g1 hne, own_var (own_var O XA (by decide) g0) X1 (by decide) g1, (B.setCell hb _).setCell hb _⟩
theorem chain4 {W wr : World} {ba bp base m n2 c2 : Nat} {A2 : Option Addr} {m0 m1 m2 : Int} {cs xs : List Value} {v : Value} (XA : Box W ba 48 cs) (XP : Box W bp 27 (plcs none 0 0 0 0 0)) (O : W.ownsRow base 3 1 v m xs) (B : Below wr.heap.size wr W) (hb : wr.heap.size ≤ bp) :
    ((W.cell? ⟨bp, 0, none⟩ = some (.slice none 0 0) ∧ W.frozen? ⟨bp, 0, none⟩ = false) ∧ ((W.setCell ⟨bp, 0, none⟩ (.slice A2 n2 c2)).cell? ⟨bp, 1, none⟩ = some (.int .i64 0) ∧ (W.setCell ⟨bp, 0, none⟩ (.slice A2 n2 c2)).frozen? ⟨bp, 1, none⟩ = false) ∧ (((W.setCell ⟨bp, 0, none⟩ (.slice A2 n2 c2)).setCell ⟨bp, 1, none⟩ (.int .i64 m0)).cell? ⟨bp, 2, none⟩ = some (.int .i64 0) ∧ ((W.setCell ⟨bp, 0, none⟩ (.slice A2 n2 c2)).setCell ⟨bp, 1, none⟩ (.int .i64 m0)).frozen? ⟨bp, 2, none⟩ = false) ∧ ((((W.setCell ⟨bp, 0, none⟩ (.slice A2 n2 c2)).setCell ⟨bp, 1, none⟩ (.int .i64 m0)).setCell ⟨bp, 2, none⟩ (.int .i64 m1)).cell? ⟨bp, 3, none⟩ = some (.int .i64 0) ∧ (((W.setCell ⟨bp, 0, none⟩ (.slice A2 n2 c2)).setCell ⟨bp, 1, none⟩ (.int .i64 m0)).setCell ⟨bp, 2, none⟩ (.int .i64 m1)).frozen? ⟨bp, 3, none⟩ = false)) ∧
    Box ((((W.setCell ⟨bp, 0, none⟩ (.slice A2 n2 c2)).setCell ⟨bp, 1, none⟩ (.int .i64 m0)).setCell ⟨bp, 2, none⟩ (.int .i64 m1)).setCell ⟨bp, 3, none⟩ (.int .i64 m2)) ba 48 cs ∧ Box ((((W.setCell ⟨bp, 0, none⟩ (.slice A2 n2 c2)).setCell ⟨bp, 1, none⟩ (.int .i64 m0)).setCell ⟨bp, 2, none⟩ (.int .i64 m1)).setCell ⟨bp, 3, none⟩ (.int .i64 m2)) bp 27 (plcs A2 n2 c2 m0 m1 m2) ∧ ((((W.setCell ⟨bp, 0, none⟩ (.slice A2 n2 c2)).setCell ⟨bp, 1, none⟩ (.int .i64 m0)).setCell ⟨bp, 2, none⟩ (.int .i64 m1)).setCell ⟨bp, 3, none⟩ (.int .i64 m2)).ownsRow base 3 1 v m xs ∧ Below wr.heap.size wr ((((W.setCell ⟨bp, 0, none⟩ (.slice A2 n2 c2)).setCell ⟨bp, 1, none⟩ (.int .i64 m0)).setCell ⟨bp, 2, none⟩ (.int .i64 m1)).setCell ⟨bp, 3, none⟩ (.int .i64 m2)) := by
  have hne : ba ≠ bp := XA.ne XP (by decide)
  have X1 : Box (W.setCell ⟨bp, 0, none⟩ (.slice A2 n2 c2)) bp 27 (plcs A2 n2 c2 0 0 0) := XP.set 0 _
  have X2 : Box ((W.setCell ⟨bp, 0, none⟩ (.slice A2 n2 c2)).setCell ⟨bp, 1, none⟩ (.int .i64 m0)) bp 27 (plcs A2 n2 c2 m0 0 0) := X1.set 1 _
  have X3 : Box (((W.setCell ⟨bp, 0, none⟩ (.slice A2 n2 c2)).setCell ⟨bp, 1, none⟩ (.int .i64 m0)).setCell ⟨bp, 2, none⟩ (.int .i64 m1)) bp 27 (plcs A2 n2 c2 m0 m1 0) := X2.set 2 _
  have X4 : Box ((((W.setCell ⟨bp, 0, none⟩ (.slice A2 n2 c2)).setCell ⟨bp, 1, none⟩ (.int .i64 m0)).setCell ⟨bp, 2, none⟩ (.int .i64 m1)).setCell ⟨bp, 3, none⟩ (.int .i64 m2)) bp 27 (plcs A2 n2 c2 m0 m1 m2) := X3.set 3 _
  have g0 := pgrown_cell W ⟨bp, 0, none⟩ (.slice A2 n2 c2)
  have g1 := pgrown_cell (W.setCell ⟨bp, 0, none⟩ (.slice A2 n2 c2)) ⟨bp, 1, none⟩ (.int .i64 m0)
  have g2 := pgrown_cell ((W.setCell ⟨bp, 0, none⟩ (.slice A2 n2 c2)).setCell ⟨bp, 1, none⟩ (.int .i64 m0)) ⟨bp, 2, none⟩ (.int .i64 m1)
  have g3 := pgrown_cell (((W.setCell ⟨bp, 0, none⟩ (.slice A2 n2 c2)).setCell ⟨bp, 1, none⟩ (.int .i64 m0)).setCell ⟨bp, 2, none⟩ (.int .i64 m1)) ⟨bp, 3, none⟩ (.int .i64 m2)
  have B1 := B.setCell (p := ⟨bp, 0, none⟩) hb (.slice A2 n2 c2)
  have B2 := B1.setCell (p := ⟨bp, 1, none⟩) hb (.int .i64 m0)
  have B3 := B2.setCell (p := ⟨bp, 2, none⟩) hb (.int .i64 m1)
  have B4 := B3.setCell (p := ⟨bp, 3, none⟩) hb (.int .i64 m2)
  have O1 := own_var O XP (by decide) g0
  have O2 := own_var O1 X1 (by decide) g1
  have O3 := own_var O2 X2 (by decide) g2
  have O4 := own_var O3 X3 (by decide) g3
  have A1 := XA.grown g0 hne
  have A2' := A1.grown g1 hne
  have A3 := A2'.grown g2 hne
  have A4 := A3.grown g3 hne
  exact ⟨⟨⟨XP.cell 0, XP.frozen 0⟩, ⟨X1.cell 1, X1.frozen 1⟩, ⟨X2.cell 2, X2.frozen 2⟩, ⟨X3.cell 3, X3.frozen 3⟩⟩, A4, X4, O4, B4⟩
theorem ord_c {wr w6 : World} {base m n2 c2 : Nat} {A2 : Option Addr} {z x m0 m1 m2 : Int} {xs : List Value} {v : Value} (hb : Below ((wr.alloc (.cells #[.int .i64 0, .int .i64 0] 48)).drew).heap.size ((wr.alloc (.cells #[.int .i64 0, .int .i64 0] 48)).drew) w6) (O6 : w6.ownsRow base 3 1 v m xs) :
    Below wr.heap.size wr w6 ∧ Below wr.heap.size wr (((w6.alloc (.cells #[.slice none 0 0, .int .i64 0, .int .i64 0, .int .i64 0] 27)).setCell ⟨wr.heap.size, 0, none⟩ (.int .i64 z)).setCell ⟨wr.heap.size, 1, none⟩ (.int .i64 x)) ∧ Box (((((((w6.alloc (.cells #[.slice none 0 0, .int .i64 0, .int .i64 0, .int .i64 0] 27)).setCell ⟨wr.heap.size, 0, none⟩ (.int .i64 z)).setCell ⟨wr.heap.size, 1, none⟩ (.int .i64 x)).setCell ⟨w6.heap.size, 0, none⟩ (.slice A2 n2 c2)).setCell ⟨w6.heap.size, 1, none⟩ (.int .i64 m0)).setCell ⟨w6.heap.size, 2, none⟩ (.int .i64 m1)).setCell ⟨w6.heap.size, 3, none⟩ (.int .i64 m2)) wr.heap.size 48 (pacl z x) ∧ Box (((((((w6.alloc (.cells #[.slice none 0 0, .int .i64 0, .int .i64 0, .int .i64 0] 27)).setCell ⟨wr.heap.size, 0, none⟩ (.int .i64 z)).setCell ⟨wr.heap.size, 1, none⟩ (.int .i64 x)).setCell ⟨w6.heap.size, 0, none⟩ (.slice A2 n2 c2)).setCell ⟨w6.heap.size, 1, none⟩ (.int .i64 m0)).setCell ⟨w6.heap.size, 2, none⟩ (.int .i64 m1)).setCell ⟨w6.heap.size, 3, none⟩ (.int .i64 m2)) w6.heap.size 27 (plcs A2 n2 c2 m0 m1 m2) ∧ (((((((w6.alloc (.cells #[.slice none 0 0, .int .i64 0, .int .i64 0, .int .i64 0] 27)).setCell ⟨wr.heap.size, 0, none⟩ (.int .i64 z)).setCell ⟨wr.heap.size, 1, none⟩ (.int .i64 x)).setCell ⟨w6.heap.size, 0, none⟩ (.slice A2 n2 c2)).setCell ⟨w6.heap.size, 1, none⟩ (.int .i64 m0)).setCell ⟨w6.heap.size, 2, none⟩ (.int .i64 m1)).setCell ⟨w6.heap.size, 3, none⟩ (.int .i64 m2)).ownsRow base 3 1 v m xs ∧ Below wr.heap.size wr (((((((w6.alloc (.cells #[.slice none 0 0, .int .i64 0, .int .i64 0, .int .i64 0] 27)).setCell ⟨wr.heap.size, 0, none⟩ (.int .i64 z)).setCell ⟨wr.heap.size, 1, none⟩ (.int .i64 x)).setCell ⟨w6.heap.size, 0, none⟩ (.slice A2 n2 c2)).setCell ⟨w6.heap.size, 1, none⟩ (.int .i64 m0)).setCell ⟨w6.heap.size, 2, none⟩ (.int .i64 m1)).setCell ⟨w6.heap.size, 3, none⟩ (.int .i64 m2)) ∧ ((w6.alloc (.cells #[.slice none 0 0, .int .i64 0, .int .i64 0, .int .i64 0] 27)).cell? ⟨wr.heap.size, 0, none⟩ = some (.int .i64 0) ∧ (w6.alloc (.cells #[.slice none 0 0, .int .i64 0, .int .i64 0, .int .i64 0] 27)).frozen? ⟨wr.heap.size, 0, none⟩ = false) ∧ (((w6.alloc (.cells #[.slice none 0 0, .int .i64 0, .int .i64 0, .int .i64 0] 27)).setCell ⟨wr.heap.size, 0, none⟩ (.int .i64 z)).cell? ⟨wr.heap.size, 1, none⟩ = some (.int .i64 0) ∧ ((w6.alloc (.cells #[.slice none 0 0, .int .i64 0, .int .i64 0, .int .i64 0] 27)).setCell ⟨wr.heap.size, 0, none⟩ (.int .i64 z)).frozen? ⟨wr.heap.size, 1, none⟩ = false) ∧ ((((w6.alloc (.cells #[.slice none 0 0, .int .i64 0, .int .i64 0, .int .i64 0] 27)).setCell ⟨wr.heap.size, 0, none⟩ (.int .i64 z)).setCell ⟨wr.heap.size, 1, none⟩ (.int .i64 x)).cell? ⟨w6.heap.size, 0, none⟩ = some (.slice none 0 0) ∧ (((w6.alloc (.cells #[.slice none 0 0, .int .i64 0, .int .i64 0, .int .i64 0] 27)).setCell ⟨wr.heap.size, 0, none⟩ (.int .i64 z)).setCell ⟨wr.heap.size, 1, none⟩ (.int .i64 x)).frozen? ⟨w6.heap.size, 0, none⟩ = false) ∧ (((((w6.alloc (.cells #[.slice none 0 0, .int .i64 0, .int .i64 0, .int .i64 0] 27)).setCell ⟨wr.heap.size, 0, none⟩ (.int .i64 z)).setCell ⟨wr.heap.size, 1, none⟩ (.int .i64 x)).setCell ⟨w6.heap.size, 0, none⟩ (.slice A2 n2 c2)).cell? ⟨w6.heap.size, 1, none⟩ = some (.int .i64 0) ∧ ((((w6.alloc (.cells #[.slice none 0 0, .int .i64 0, .int .i64 0, .int .i64 0] 27)).setCell ⟨wr.heap.size, 0, none⟩ (.int .i64 z)).setCell ⟨wr.heap.size, 1, none⟩ (.int .i64 x)).setCell ⟨w6.heap.size, 0, none⟩ (.slice A2 n2 c2)).frozen? ⟨w6.heap.size, 1, none⟩ = false) ∧ ((((((w6.alloc (.cells #[.slice none 0 0, .int .i64 0, .int .i64 0, .int .i64 0] 27)).setCell ⟨wr.heap.size, 0, none⟩ (.int .i64 z)).setCell ⟨wr.heap.size, 1, none⟩ (.int .i64 x)).setCell ⟨w6.heap.size, 0, none⟩ (.slice A2 n2 c2)).setCell ⟨w6.heap.size, 1, none⟩ (.int .i64 m0)).cell? ⟨w6.heap.size, 2, none⟩ = some (.int .i64 0) ∧ (((((w6.alloc (.cells #[.slice none 0 0, .int .i64 0, .int .i64 0, .int .i64 0] 27)).setCell ⟨wr.heap.size, 0, none⟩ (.int .i64 z)).setCell ⟨wr.heap.size, 1, none⟩ (.int .i64 x)).setCell ⟨w6.heap.size, 0, none⟩ (.slice A2 n2 c2)).setCell ⟨w6.heap.size, 1, none⟩ (.int .i64 m0)).frozen? ⟨w6.heap.size, 2, none⟩ = false) ∧ (((((((w6.alloc (.cells #[.slice none 0 0, .int .i64 0, .int .i64 0, .int .i64 0] 27)).setCell ⟨wr.heap.size, 0, none⟩ (.int .i64 z)).setCell ⟨wr.heap.size, 1, none⟩ (.int .i64 x)).setCell ⟨w6.heap.size, 0, none⟩ (.slice A2 n2 c2)).setCell ⟨w6.heap.size, 1, none⟩ (.int .i64 m0)).setCell ⟨w6.heap.size, 2, none⟩ (.int .i64 m1)).cell? ⟨w6.heap.size, 3, none⟩ = some (.int .i64 0) ∧ ((((((w6.alloc (.cells #[.slice none 0 0, .int .i64 0, .int .i64 0, .int .i64 0] 27)).setCell ⟨wr.heap.size, 0, none⟩ (.int .i64 z)).setCell ⟨wr.heap.size, 1, none⟩ (.int .i64 x)).setCell ⟨w6.heap.size, 0, none⟩ (.slice A2 n2 c2)).setCell ⟨w6.heap.size, 1, none⟩ (.int .i64 m0)).setCell ⟨w6.heap.size, 2, none⟩ (.int .i64 m1)).frozen? ⟨w6.heap.size, 3, none⟩ = false) := by
  have B6 : Below wr.heap.size wr w6 := bthen ((Below.refl _ _).alloc (Nat.le_refl _) _).drew hb
  have XA6 : Box (w6.alloc (.cells #[.slice none 0 0, .int .i64 0, .int .i64 0, .int .i64 0] 27)) (wr.heap.size) 48 (pacl 0 0) := ((Box.new wr 48 (pacl 0 0)).drew1.on hb).alloc _
  have XP6 : Box (w6.alloc (.cells #[.slice none 0 0, .int .i64 0, .int .i64 0, .int .i64 0] 27)) (w6.heap.size) 27 (plcs none 0 0 0 0 0) := Box.new w6 27 (plcs none 0 0 0 0 0)
  obtain ⟨⟨a, b, c, d⟩, XA2, XP2, OW2, BW2⟩ := chain2 (z := z) (x := x) XA6 XP6 (O6.alloc _) (below_alloc1 B6) (Nat.le_refl _)
  obtain ⟨⟨e, g, i, k⟩, XA4, XP4, OW4, BW4⟩ := chain4 (A2 := A2) (n2 := n2) (c2 := c2) (m0 := m0) (m1 := m1) (m2 := m2) XA2 XP2 OW2 BW2 (B6.size)
  exact ⟨B6, BW2, XA4, XP4, OW4, BW4, ⟨a, b⟩, ⟨c, d⟩, e, g, i, k⟩
theorem ord_d {wr w6 : World} {base m n2 c2 : Nat} {A2 : Option Addr} {z x m0 m1 m2 : Int} {xs : List Value} {v : Value} (hb : Below ((wr.alloc (.cells #[.slice none 0 0, .int .i64 0, .int .i64 0, .int .i64 0] 27)).drew).heap.size ((wr.alloc (.cells #[.slice none 0 0, .int .i64 0, .int .i64 0, .int .i64 0] 27)).drew) w6) (O6 : w6.ownsRow base 3 1 v m xs) :
    Below wr.heap.size wr w6 ∧ Below wr.heap.size wr (w6.alloc (.cells #[.int .i64 z, .int .i64 x] 48)) ∧ Box (((((w6.alloc (.cells #[.int .i64 z, .int .i64 x] 48)).setCell ⟨wr.heap.size, 0, none⟩ (.slice A2 n2 c2)).setCell ⟨wr.heap.size, 1, none⟩ (.int .i64 m0)).setCell ⟨wr.heap.size, 2, none⟩ (.int .i64 m1)).setCell ⟨wr.heap.size, 3, none⟩ (.int .i64 m2)) w6.heap.size 48 (pacl z x) ∧ Box (((((w6.alloc (.cells #[.int .i64 z, .int .i64 x] 48)).setCell ⟨wr.heap.size, 0, none⟩ (.slice A2 n2 c2)).setCell ⟨wr.heap.size, 1, none⟩ (.int .i64 m0)).setCell ⟨wr.heap.size, 2, none⟩ (.int .i64 m1)).setCell ⟨wr.heap.size, 3, none⟩ (.int .i64 m2)) wr.heap.size 27 (plcs A2 n2 c2 m0 m1 m2) ∧ (((((w6.alloc (.cells #[.int .i64 z, .int .i64 x] 48)).setCell ⟨wr.heap.size, 0, none⟩ (.slice A2 n2 c2)).setCell ⟨wr.heap.size, 1, none⟩ (.int .i64 m0)).setCell ⟨wr.heap.size, 2, none⟩ (.int .i64 m1)).setCell ⟨wr.heap.size, 3, none⟩ (.int .i64 m2)).ownsRow base 3 1 v m xs ∧ Below wr.heap.size wr (((((w6.alloc (.cells #[.int .i64 z, .int .i64 x] 48)).setCell ⟨wr.heap.size, 0, none⟩ (.slice A2 n2 c2)).setCell ⟨wr.heap.size, 1, none⟩ (.int .i64 m0)).setCell ⟨wr.heap.size, 2, none⟩ (.int .i64 m1)).setCell ⟨wr.heap.size, 3, none⟩ (.int .i64 m2)) ∧ ((w6.alloc (.cells #[.int .i64 z, .int .i64 x] 48)).cell? ⟨wr.heap.size, 0, none⟩ = some (.slice none 0 0) ∧ (w6.alloc (.cells #[.int .i64 z, .int .i64 x] 48)).frozen? ⟨wr.heap.size, 0, none⟩ = false) ∧ (((w6.alloc (.cells #[.int .i64 z, .int .i64 x] 48)).setCell ⟨wr.heap.size, 0, none⟩ (.slice A2 n2 c2)).cell? ⟨wr.heap.size, 1, none⟩ = some (.int .i64 0) ∧ ((w6.alloc (.cells #[.int .i64 z, .int .i64 x] 48)).setCell ⟨wr.heap.size, 0, none⟩ (.slice A2 n2 c2)).frozen? ⟨wr.heap.size, 1, none⟩ = false) ∧ ((((w6.alloc (.cells #[.int .i64 z, .int .i64 x] 48)).setCell ⟨wr.heap.size, 0, none⟩ (.slice A2 n2 c2)).setCell ⟨wr.heap.size, 1, none⟩ (.int .i64 m0)).cell? ⟨wr.heap.size, 2, none⟩ = some (.int .i64 0) ∧ (((w6.alloc (.cells #[.int .i64 z, .int .i64 x] 48)).setCell ⟨wr.heap.size, 0, none⟩ (.slice A2 n2 c2)).setCell ⟨wr.heap.size, 1, none⟩ (.int .i64 m0)).frozen? ⟨wr.heap.size, 2, none⟩ = false) ∧ (((((w6.alloc (.cells #[.int .i64 z, .int .i64 x] 48)).setCell ⟨wr.heap.size, 0, none⟩ (.slice A2 n2 c2)).setCell ⟨wr.heap.size, 1, none⟩ (.int .i64 m0)).setCell ⟨wr.heap.size, 2, none⟩ (.int .i64 m1)).cell? ⟨wr.heap.size, 3, none⟩ = some (.int .i64 0) ∧ ((((w6.alloc (.cells #[.int .i64 z, .int .i64 x] 48)).setCell ⟨wr.heap.size, 0, none⟩ (.slice A2 n2 c2)).setCell ⟨wr.heap.size, 1, none⟩ (.int .i64 m0)).setCell ⟨wr.heap.size, 2, none⟩ (.int .i64 m1)).frozen? ⟨wr.heap.size, 3, none⟩ = false) := by
  have B6 : Below wr.heap.size wr w6 := bthen ((Below.refl _ _).alloc (Nat.le_refl _) _).drew hb
  have XA6 : Box (w6.alloc (.cells #[.int .i64 z, .int .i64 x] 48)) (w6.heap.size) 48 (pacl z x) := Box.new w6 48 (pacl z x)
  have XP6 : Box (w6.alloc (.cells #[.int .i64 z, .int .i64 x] 48)) (wr.heap.size) 27 (plcs none 0 0 0 0 0) := ((Box.new wr 27 (plcs none 0 0 0 0 0)).drew1.on hb).alloc _
  have XA2 := XA6
  have XP2 := XP6
  have OW2 := O6.alloc (.cells #[.int .i64 z, .int .i64 x] 48)
  have BW2 := below_alloc1 (o := (.cells #[.int .i64 z, .int .i64 x] 48)) B6
  obtain ⟨⟨e, g, i, k⟩, XA4, XP4, OW4, BW4⟩ := chain4 (A2 := A2) (n2 := n2) (c2 := c2) (m0 := m0) (m1 := m1) (m2 := m2) XA2 XP2 OW2 BW2 (Nat.le_refl _)
  exact ⟨B6, BW2, XA4, XP4, OW4, BW4, e, g, i, k⟩
theorem ord_e {wr w6 : World} {base m n2 c2 : Nat} {A2 : Option Addr} {z x m0 m1 m2 : Int} {xs : List Value} {v : Value} (hb : Below (((wr.alloc (.cells #[.int .i64 0, .int .i64 0] 48)).alloc (.cells #[.slice none 0 0, .int .i64 0, .int .i64 0, .int .i64 0] 27)).drew).heap.size (((wr.alloc (.cells #[.int .i64 0, .int .i64 0] 48)).alloc (.cells #[.slice none 0 0, .int .i64 0, .int .i64 0, .int .i64 0] 27)).drew) w6) (O6 : w6.ownsRow base 3 1 v m xs) :
    Below wr.heap.size wr w6 ∧ Below wr.heap.size wr ((w6.setCell ⟨wr.heap.size, 0, none⟩ (.int .i64 z)).setCell ⟨wr.heap.size, 1, none⟩ (.int .i64 x)) ∧ Box ((((((w6.setCell ⟨wr.heap.size, 0, none⟩ (.int .i64 z)).setCell ⟨wr.heap.size, 1, none⟩ (.int .i64 x)).setCell ⟨(wr.heap.size + 1), 0, none⟩ (.slice A2 n2 c2)).setCell ⟨(wr.heap.size + 1), 1, none⟩ (.int .i64 m0)).setCell ⟨(wr.heap.size + 1), 2, none⟩ (.int .i64 m1)).setCell ⟨(wr.heap.size + 1), 3, none⟩ (.int .i64 m2)) wr.heap.size 48 (pacl z x) ∧ Box ((((((w6.setCell ⟨wr.heap.size, 0, none⟩ (.int .i64 z)).setCell ⟨wr.heap.size, 1, none⟩ (.int .i64 x)).setCell ⟨(wr.heap.size + 1), 0, none⟩ (.slice A2 n2 c2)).setCell ⟨(wr.heap.size + 1), 1, none⟩ (.int .i64 m0)).setCell ⟨(wr.heap.size + 1), 2, none⟩ (.int .i64 m1)).setCell ⟨(wr.heap.size + 1), 3, none⟩ (.int .i64 m2)) (wr.heap.size + 1) 27 (plcs A2 n2 c2 m0 m1 m2) ∧ ((((((w6.setCell ⟨wr.heap.size, 0, none⟩ (.int .i64 z)).setCell ⟨wr.heap.size, 1, none⟩ (.int .i64 x)).setCell ⟨(wr.heap.size + 1), 0, none⟩ (.slice A2 n2 c2)).setCell ⟨(wr.heap.size + 1), 1, none⟩ (.int .i64 m0)).setCell ⟨(wr.heap.size + 1), 2, none⟩ (.int .i64 m1)).setCell ⟨(wr.heap.size + 1), 3, none⟩ (.int .i64 m2)).ownsRow base 3 1 v m xs ∧ Below wr.heap.size wr ((((((w6.setCell ⟨wr.heap.size, 0, none⟩ (.int .i64 z)).setCell ⟨wr.heap.size, 1, none⟩ (.int .i64 x)).setCell ⟨(wr.heap.size + 1), 0, none⟩ (.slice A2 n2 c2)).setCell ⟨(wr.heap.size + 1), 1, none⟩ (.int .i64 m0)).setCell ⟨(wr.heap.size + 1), 2, none⟩ (.int .i64 m1)).setCell ⟨(wr.heap.size + 1), 3, none⟩ (.int .i64 m2)) ∧ (w6.cell? ⟨wr.heap.size, 0, none⟩ = some (.int .i64 0) ∧ w6.frozen? ⟨wr.heap.size, 0, none⟩ = false) ∧ ((w6.setCell ⟨wr.heap.size, 0, none⟩ (.int .i64 z)).cell? ⟨wr.heap.size, 1, none⟩ = some (.int .i64 0) ∧ (w6.setCell ⟨wr.heap.size, 0, none⟩ (.int .i64 z)).frozen? ⟨wr.heap.size, 1, none⟩ = false) ∧ (((w6.setCell ⟨wr.heap.size, 0, none⟩ (.int .i64 z)).setCell ⟨wr.heap.size, 1, none⟩ (.int .i64 x)).cell? ⟨(wr.heap.size + 1), 0, none⟩ = some (.slice none 0 0) ∧ ((w6.setCell ⟨wr.heap.size, 0, none⟩ (.int .i64 z)).setCell ⟨wr.heap.size, 1, none⟩ (.int .i64 x)).frozen? ⟨(wr.heap.size + 1), 0, none⟩ = false) ∧ ((((w6.setCell ⟨wr.heap.size, 0, none⟩ (.int .i64 z)).setCell ⟨wr.heap.size, 1, none⟩ (.int .i64 x)).setCell ⟨(wr.heap.size + 1), 0, none⟩ (.slice A2 n2 c2)).cell? ⟨(wr.heap.size + 1), 1, none⟩ = some (.int .i64 0) ∧ (((w6.setCell ⟨wr.heap.size, 0, none⟩ (.int .i64 z)).setCell ⟨wr.heap.size, 1, none⟩ (.int .i64 x)).setCell ⟨(wr.heap.size + 1), 0, none⟩ (.slice A2 n2 c2)).frozen? ⟨(wr.heap.size + 1), 1, none⟩ = false) ∧ (((((w6.setCell ⟨wr.heap.size, 0, none⟩ (.int .i64 z)).setCell ⟨wr.heap.size, 1, none⟩ (.int .i64 x)).setCell ⟨(wr.heap.size + 1), 0, none⟩ (.slice A2 n2 c2)).setCell ⟨(wr.heap.size + 1), 1, none⟩ (.int .i64 m0)).cell? ⟨(wr.heap.size + 1), 2, none⟩ = some (.int .i64 0) ∧ ((((w6.setCell ⟨wr.heap.size, 0, none⟩ (.int .i64 z)).setCell ⟨wr.heap.size, 1, none⟩ (.int .i64 x)).setCell ⟨(wr.heap.size + 1), 0, none⟩ (.slice A2 n2 c2)).setCell ⟨(wr.heap.size + 1), 1, none⟩ (.int .i64 m0)).frozen? ⟨(wr.heap.size + 1), 2, none⟩ = false) ∧ ((((((w6.setCell ⟨wr.heap.size, 0, none⟩ (.int .i64 z)).setCell ⟨wr.heap.size, 1, none⟩ (.int .i64 x)).setCell ⟨(wr.heap.size + 1), 0, none⟩ (.slice A2 n2 c2)).setCell ⟨(wr.heap.size + 1), 1, none⟩ (.int .i64 m0)).setCell ⟨(wr.heap.size + 1), 2, none⟩ (.int .i64 m1)).cell? ⟨(wr.heap.size + 1), 3, none⟩ = some (.int .i64 0) ∧ (((((w6.setCell ⟨wr.heap.size, 0, none⟩ (.int .i64 z)).setCell ⟨wr.heap.size, 1, none⟩ (.int .i64 x)).setCell ⟨(wr.heap.size + 1), 0, none⟩ (.slice A2 n2 c2)).setCell ⟨(wr.heap.size + 1), 1, none⟩ (.int .i64 m0)).setCell ⟨(wr.heap.size + 1), 2, none⟩ (.int .i64 m1)).frozen? ⟨(wr.heap.size + 1), 3, none⟩ = false) := by
  have B6 : Below wr.heap.size wr w6 := bthen (below_alloc1 ((Below.refl _ _).alloc (Nat.le_refl _) _)).drew hb
  have XA6 : Box w6 (wr.heap.size) 48 (pacl 0 0) := (two_at hb).1
  have XP6 : Box w6 ((wr.heap.size + 1)) 27 (plcs none 0 0 0 0 0) := (two_at hb).2
  obtain ⟨⟨a, b, c, d⟩, XA2, XP2, OW2, BW2⟩ := chain2 (z := z) (x := x) XA6 XP6 O6 B6 (Nat.le_refl _)
  obtain ⟨⟨e, g, i, k⟩, XA4, XP4, OW4, BW4⟩ := chain4 (A2 := A2) (n2 := n2) (c2 := c2) (m0 := m0) (m1 := m1) (m2 := m2) XA2 XP2 OW2 BW2 (Nat.le_succ _)
  exact ⟨B6, BW2, XA4, XP4, OW4, BW4, ⟨a, b⟩, ⟨c, d⟩, e, g, i, k⟩
theorem ord_f {wr w6 : World} {base m n2 c2 : Nat} {A2 : Option Addr} {z x m0 m1 m2 : Int} {xs : List Value} {v : Value} (hb : Below (((wr.alloc (.cells #[.slice none 0 0, .int .i64 0, .int .i64 0, .int .i64 0] 27)).alloc (.cells #[.int .i64 0, .int .i64 0] 48)).drew).heap.size (((wr.alloc (.cells #[.slice none 0 0, .int .i64 0, .int .i64 0, .int .i64 0] 27)).alloc (.cells #[.int .i64 0, .int .i64 0] 48)).drew) w6) (O6 : w6.ownsRow base 3 1 v m xs) :
    Below wr.heap.size wr w6 ∧ Below wr.heap.size wr ((w6.setCell ⟨(wr.heap.size + 1), 0, none⟩ (.int .i64 z)).setCell ⟨(wr.heap.size + 1), 1, none⟩ (.int .i64 x)) ∧ Box ((((((w6.setCell ⟨(wr.heap.size + 1), 0, none⟩ (.int .i64 z)).setCell ⟨(wr.heap.size + 1), 1, none⟩ (.int .i64 x)).setCell ⟨wr.heap.size, 0, none⟩ (.slice A2 n2 c2)).setCell ⟨wr.heap.size, 1, none⟩ (.int .i64 m0)).setCell ⟨wr.heap.size, 2, none⟩ (.int .i64 m1)).setCell ⟨wr.heap.size, 3, none⟩ (.int .i64 m2)) (wr.heap.size + 1) 48 (pacl z x) ∧ Box ((((((w6.setCell ⟨(wr.heap.size + 1), 0, none⟩ (.int .i64 z)).setCell ⟨(wr.heap.size + 1), 1, none⟩ (.int .i64 x)).setCell ⟨wr.heap.size, 0, none⟩ (.slice A2 n2 c2)).setCell ⟨wr.heap.size, 1, none⟩ (.int .i64 m0)).setCell ⟨wr.heap.size, 2, none⟩ (.int .i64 m1)).setCell ⟨wr.heap.size, 3, none⟩ (.int .i64 m2)) wr.heap.size 27 (plcs A2 n2 c2 m0 m1 m2) ∧ ((((((w6.setCell ⟨(wr.heap.size + 1), 0, none⟩ (.int .i64 z)).setCell ⟨(wr.heap.size + 1), 1, none⟩ (.int .i64 x)).setCell ⟨wr.heap.size, 0, none⟩ (.slice A2 n2 c2)).setCell ⟨wr.heap.size, 1, none⟩ (.int .i64 m0)).setCell ⟨wr.heap.size, 2, none⟩ (.int .i64 m1)).setCell ⟨wr.heap.size, 3, none⟩ (.int .i64 m2)).ownsRow base 3 1 v m xs ∧ Below wr.heap.size wr ((((((w6.setCell ⟨(wr.heap.size + 1), 0, none⟩ (.int .i64 z)).setCell ⟨(wr.heap.size + 1), 1, none⟩ (.int .i64 x)).setCell ⟨wr.heap.size, 0, none⟩ (.slice A2 n2 c2)).setCell ⟨wr.heap.size, 1, none⟩ (.int .i64 m0)).setCell ⟨wr.heap.size, 2, none⟩ (.int .i64 m1)).setCell ⟨wr.heap.size, 3, none⟩ (.int .i64 m2)) ∧ (w6.cell? ⟨(wr.heap.size + 1), 0, none⟩ = some (.int .i64 0) ∧ w6.frozen? ⟨(wr.heap.size + 1), 0, none⟩ = false) ∧ ((w6.setCell ⟨(wr.heap.size + 1), 0, none⟩ (.int .i64 z)).cell? ⟨(wr.heap.size + 1), 1, none⟩ = some (.int .i64 0) ∧ (w6.setCell ⟨(wr.heap.size + 1), 0, none⟩ (.int .i64 z)).frozen? ⟨(wr.heap.size + 1), 1, none⟩ = false) ∧ (((w6.setCell ⟨(wr.heap.size + 1), 0, none⟩ (.int .i64 z)).setCell ⟨(wr.heap.size + 1), 1, none⟩ (.int .i64 x)).cell? ⟨wr.heap.size, 0, none⟩ = some (.slice none 0 0) ∧ ((w6.setCell ⟨(wr.heap.size + 1), 0, none⟩ (.int .i64 z)).setCell ⟨(wr.heap.size + 1), 1, none⟩ (.int .i64 x)).frozen? ⟨wr.heap.size, 0, none⟩ = false) ∧ ((((w6.setCell ⟨(wr.heap.size + 1), 0, none⟩ (.int .i64 z)).setCell ⟨(wr.heap.size + 1), 1, none⟩ (.int .i64 x)).setCell ⟨wr.heap.size, 0, none⟩ (.slice A2 n2 c2)).cell? ⟨wr.heap.size, 1, none⟩ = some (.int .i64 0) ∧ (((w6.setCell ⟨(wr.heap.size + 1), 0, none⟩ (.int .i64 z)).setCell ⟨(wr.heap.size + 1), 1, none⟩ (.int .i64 x)).setCell ⟨wr.heap.size, 0, none⟩ (.slice A2 n2 c2)).frozen? ⟨wr.heap.size, 1, none⟩ = false) ∧ (((((w6.setCell ⟨(wr.heap.size + 1), 0, none⟩ (.int .i64 z)).setCell ⟨(wr.heap.size + 1), 1, none⟩ (.int .i64 x)).setCell ⟨wr.heap.size, 0, none⟩ (.slice A2 n2 c2)).setCell ⟨wr.heap.size, 1, none⟩ (.int .i64 m0)).cell? ⟨wr.heap.size, 2, none⟩ = some (.int .i64 0) ∧ ((((w6.setCell ⟨(wr.heap.size + 1), 0, none⟩ (.int .i64 z)).setCell ⟨(wr.heap.size + 1), 1, none⟩ (.int .i64 x)).setCell ⟨wr.heap.size, 0, none⟩ (.slice A2 n2 c2)).setCell ⟨wr.heap.size, 1, none⟩ (.int .i64 m0)).frozen? ⟨wr.heap.size, 2, none⟩ = false) ∧ ((((((w6.setCell ⟨(wr.heap.size + 1), 0, none⟩ (.int .i64 z)).setCell ⟨(wr.heap.size + 1), 1, none⟩ (.int .i64 x)).setCell ⟨wr.heap.size, 0, none⟩ (.slice A2 n2 c2)).setCell ⟨wr.heap.size, 1, none⟩ (.int .i64 m0)).setCell ⟨wr.heap.size, 2, none⟩ (.int .i64 m1)).cell? ⟨wr.heap.size, 3, none⟩ = some (.int .i64 0) ∧ (((((w6.setCell ⟨(wr.heap.size + 1), 0, none⟩ (.int .i64 z)).setCell ⟨(wr.heap.size + 1), 1, none⟩ (.int .i64 x)).setCell ⟨wr.heap.size, 0, none⟩ (.slice A2 n2 c2)).setCell ⟨wr.heap.size, 1, none⟩ (.int .i64 m0)).setCell ⟨wr.heap.size, 2, none⟩ (.int .i64 m1)).frozen? ⟨wr.heap.size, 3, none⟩ = false) := by
  have B6 : Below wr.heap.size wr w6 := bthen (below_alloc1 ((Below.refl _ _).alloc (Nat.le_refl _) _)).drew hb
  have XA6 : Box w6 ((wr.heap.size + 1)) 48 (pacl 0 0) := (two_pa hb).1
  have XP6 : Box w6 (wr.heap.size) 27 (plcs none 0 0 0 0 0) := (two_pa hb).2
  obtain ⟨⟨a, b, c, d⟩, XA2, XP2, OW2, BW2⟩ := chain2 (z := z) (x := x) XA6 XP6 O6 B6 (Nat.le_succ _)
  obtain ⟨⟨e, g, i, k⟩, XA4, XP4, OW4, BW4⟩ := chain4 (A2 := A2) (n2 := n2) (c2 := c2) (m0 := m0) (m1 := m1) (m2 := m2) XA2 XP2 OW2 BW2 (Nat.le_refl _)
  exact ⟨B6, BW2, XA4, XP4, OW4, BW4, ⟨a, b⟩, ⟨c, d⟩, e, g, i, k⟩
theorem ord_a {wr w6 : World} {base m n2 c2 : Nat} {A2 : Option Addr} {z x m0 m1 m2 : Int} {xs : List Value} {v : Value} (B6 : Below wr.heap.size wr w6) (O6 : w6.ownsRow base 3 1 v m xs) : Below wr.heap.size wr ((w6.alloc (.cells #[.int .i64 z, .int .i64 x] 48)).alloc (.cells #[.slice A2 n2 c2, .int .i64 m0, .int .i64 m1, .int .i64 m2] 27)) ∧ Box ((w6.alloc (.cells #[.int .i64 z, .int .i64 x] 48)).alloc (.cells #[.slice A2 n2 c2, .int .i64 m0, .int .i64 m1, .int .i64 m2] 27)) w6.heap.size 48 (pacl z x) ∧ Box ((w6.alloc (.cells #[.int .i64 z, .int .i64 x] 48)).alloc (.cells #[.slice A2 n2 c2, .int .i64 m0, .int .i64 m1, .int .i64 m2] 27)) (w6.heap.size + 1) 27 (plcs A2 n2 c2 m0 m1 m2) ∧ ((w6.alloc (.cells #[.int .i64 z, .int .i64 x] 48)).alloc (.cells #[.slice A2 n2 c2, .int .i64 m0, .int .i64 m1, .int .i64 m2] 27)).ownsRow base 3 1 v m xs := by
  have x2 := Box.new (w6.alloc (.cells #[.int .i64 z, .int .i64 x] 48)) 27 (plcs A2 n2 c2 m0 m1 m2)
  rw [show (w6.alloc (.cells #[.int .i64 z, .int .i64 x] 48)).heap.size = w6.heap.size + 1 by simp] at x2
  exact ⟨below_alloc1 (below_alloc1 B6), (Box.new w6 48 (pacl z x)).alloc _, x2, (O6.alloc _).alloc _⟩
theorem ord_b {wr w6 : World} {base m n2 c2 : Nat} {A2 : Option Addr} {z x m0 m1 m2 : Int} {xs : List Value} {v : Value} (B6 : Below wr.heap.size wr w6) (O6 : w6.ownsRow base 3 1 v m xs) : Below wr.heap.size wr ((w6.alloc (.cells #[.slice A2 n2 c2, .int .i64 m0, .int .i64 m1, .int .i64 m2] 27)).alloc (.cells #[.int .i64 z, .int .i64 x] 48)) ∧ Box ((w6.alloc (.cells #[.slice A2 n2 c2, .int .i64 m0, .int .i64 m1, .int .i64 m2] 27)).alloc (.cells #[.int .i64 z, .int .i64 x] 48)) (w6.heap.size + 1) 48 (pacl z x) ∧ Box ((w6.alloc (.cells #[.slice A2 n2 c2, .int .i64 m0, .int .i64 m1, .int .i64 m2] 27)).alloc (.cells #[.int .i64 z, .int .i64 x] 48)) w6.heap.size 27 (plcs A2 n2 c2 m0 m1 m2) ∧ ((w6.alloc (.cells #[.slice A2 n2 c2, .int .i64 m0, .int .i64 m1, .int .i64 m2] 27)).alloc (.cells #[.int .i64 z, .int .i64 x] 48)).ownsRow base 3 1 v m xs := by
  have x2 := Box.new (w6.alloc (.cells #[.slice A2 n2 c2, .int .i64 m0, .int .i64 m1, .int .i64 m2] 27)) 48 (pacl z x)
  rw [show (w6.alloc (.cells #[.slice A2 n2 c2, .int .i64 m0, .int .i64 m1, .int .i64 m2] 27)).heap.size = w6.heap.size + 1 by simp] at x2
  exact ⟨below_alloc1 (below_alloc1 B6), x2, (Box.new w6 27 (plcs A2 n2 c2 m0 m1 m2)).alloc _, (O6.alloc _).alloc _⟩
section
variable (conv soft seq size opn : Int) (A : Option Addr) (n cap : Nat) (ps : List Int) (h0 h1 h2 : Int)
set_option maxRecDepth 100000 in
set_option maxHeartbeats 16000000 in
theorem rlplan_any (As : Option Addr) (m cs : Nat) (ss : List Nat) (w : World) (hm : n ≤ 64) (hn : ps.length = n) (S : Some conv seq size) (R : Ri conv seq size ps h0 h1 h2) (hr : Rd w w.heap.size A (is ps))
    (hs : ∀ s ∈ ss, s < 3) (hsl : ss.length = m) (hsm : m ≤ 40000) (hrs : Rd w w.heap.size As (isn ss)) :
    Calls Try.prog 14 #[pgv conv soft seq size opn, ppv A n cap h0 h1 h2, .slice As m cs] w fun e w' =>
      (planX conv size ss ⟨ps, h0, h1, h2⟩ = none ∧ e = .returned (.tuple #[.slice none 0 0, ppv A n cap h0 h1 h2, .bool false]) ∧ Below w.heap.size w w') ∨
      (∃ l q, planX conv size ss ⟨ps, h0, h1, h2⟩ = some (l, q) ∧ ∃ V A' c, e = .returned (.tuple #[V, ppv A' n c q.h0 q.h1 q.h2, .bool true]) ∧ w'.ownsRow w.heap.size 48 2 V l.length (ccs l) ∧ RowQ w.heap.size w' A A' n c q.ps ∧ Below w.heap.size w w') := by
  have H0 := Lib.hid (GP.res w conv soft seq size opn A n cap h0 h1 h2)
  have hp : 0 < n := by have := R.len; have := S.2.1; omega
  have HRs := Lib.hid fun w' (h : GP w w' conv soft seq size opn A n cap h0 h1 h2) => Rd.gp hrs h
  have HRp := Lib.hid fun w' (h : Below w.heap.size w w') => hr.below h
  have HP := Lib.hid hp
  have HN := Lib.hid hn
  have HM := Lib.hid hm
  have HS := Lib.hid S
  have HSs := Lib.hid hs
  have HSl := Lib.hid hsl
  have HRt : Hid (Rt conv seq size ⟨ps, h0, h1, h2⟩) := Lib.hid R
  clear hr R S hn hs hp hm hrs hsl
  generalize hp0 : (⟨ps, h0, h1, h2⟩ : PS) = p0 at *
  have HP0 := Lib.hid hp0
  clear hp0
  go_enter Try.func14, Try.ntmps14
  have H1 : Hid (RfSt w (((((w.alloc (.cells #[.int .i64 conv, .int .i64 soft, .int .i64 seq, .int .i64 size, .int .i64 opn] 23)).alloc (.cells #[.slice A n cap, .int .i64 h0, .int .i64 h1, .int .i64 h2] 27)).alloc (.cells #[.slice none 0 0, .int .i64 0, .int .i64 0, .int .i64 0] 27)).alloc (.cells #[.slice A n cap, .int .i64 h0, .int .i64 h1, .int .i64 h2] 27)))
      ((((w.alloc (.cells #[.int .i64 conv, .int .i64 soft, .int .i64 seq, .int .i64 size, .int .i64 opn] 23)).alloc (.cells #[.slice A n cap, .int .i64 h0, .int .i64 h1, .int .i64 h2] 27)).alloc (.cells #[.slice none 0 0, .int .i64 0, .int .i64 0, .int .i64 0] 27))).heap.size conv soft seq size opn A n cap h0 h1 h2 A cap p0.ps p0.h0 p0.h1 p0.h2 (.slice none 0 0) []) := Lib.hid (by
    rw [← HP0.out]
    exact ⟨H0.out.1.alloc _, H0.out.2.alloc _, Box.new _ _ (plcs A n cap h0 h1 h2), .inl ⟨rfl, HRp.out _ (H0.out.1.alloc _).2.2⟩, World.ownsRow_nil _ _ _ _, H0.out.2.lt⟩)
  go_wp2_with fail
  generalize World.alloc _ _ = w1 at H1 ⊢
  generalize hb : (World.alloc (World.alloc (World.alloc w _) _) _).heap.size = b at H1 ⊢
  obtain rfl : b = w.heap.size + 1 + 1 + 1 := by rw [← hb]; simp
  clear hb
  generalize w.heap.size + 1 + 1 + 1 = b at H1 ⊢
  have HT3 := H1
  clear H1
  clear H0
  have HNp : Hid (p0.ps.length = n) := Lib.hid (by rw [← HP0.out]; exact HN.out)
  go_loopw [9, 11] (fun V i wr => ∃ (k : Nat) (l : List (Int × Int)) (q : PS) (A1 : Option Addr) (c1 : Nat), k ≤ m ∧ i = .int .i64 k ∧ planX conv size (ss.take k) p0 = some (l, q) ∧ RfSt w wr b conv soft seq size opn A n cap h0 h1 h2 A1 c1 q.ps q.h0 q.h1 q.h2 V l) (fun _ i _ => m - (intOf i).toNat)
  case atStart => exact ⟨0, [], p0, A, cap, by omega, rfl, rfl, HT3.out⟩
  case round =>
    obtain ⟨k, l, q, A1, c1, hk, rfl, hpl, hst⟩ := hrel
    obtain ⟨hq1, hq2, hq3, hq4⟩ := plan_rt HS.out (ss.take k) p0 HRt.out (fun s h => HSs.out s (List.mem_of_mem_take h)) l q hpl
    have hll : l.length = k := by rw [hq3, List.length_take, HSl.out]; omega
    have HQ := Lib.hid (show Rt conv seq size q ∧ q.ps.length = n from ⟨hq1, hq2.trans HNp.out⟩)
    have HPl := Lib.hid hpl
    have HT := Lib.hid hst
    have HLl := Lib.hid hll
    clear hq1 hq2 hq3 hq4 hpl hst hll HT3
    obtain ⟨c0, c1', c2, c3, c4, cl⟩ := id HT.out.gp.1
    obtain ⟨b0, b1, b2, b3, bl⟩ := HT.out.q.pool
    by_cases hlt : k < m
    rotate_left
    · obtain rfl : k = m := by omega
      have HF := Lib.hid (show planX conv size ss p0 = some (l, q) by have := HPl.out; rwa [← HSl.out, List.take_length] at this)
      have hdk : decide ((k : Int) < (k : Int)) = false := decide_eq_false (by omega)
      generalize hk0 : q.h0 = k0 at *
      generalize hk1 : q.h1 = k1 at *
      generalize hk2 : q.h2 = k2 at *
      have HK := Lib.hid (And.intro hk0 (And.intro hk1 hk2))
      clear hk0 hk1 hk2
      go_wp2_with fail
      go_still_tail 3, (by kernel_rfl)
      change wpList _ _ _ _ _ wr.drew
      have H4 := Lib.hid (HT.out.on (Below.refl _ _).drew)
      generalize wr.drew = w4 at H4 ⊢
      clear c0 c1' c2 c3 c4 cl b0 b1 b2 b3 bl HT
      go_wp2_with ((with_reducible refine wpList_pool_store (o := ⟨none, .store _ _ _, _, _, _, _⟩) rfl _ _ rfl _ A1 none n 0 c1 0 k0 k1 k2 0 0 0 rfl rfl H4.out.rs ?_); intro w9 x9 hg9; have HF9 := Lib.hid (H4.out.gp.2.2.grown hg9 H4.out.gp.2.2.size (fun k hk => by injection hk with hk; omega)); have HR9 := Lib.hid ((H4.out.row.var H4.out.gp.2.2.size H4.out.rs (by decide) (by omega) hg9).q); have HV9 := Lib.hid (own_base0 (own_var H4.out.out H4.out.rs (by decide) hg9) (by omega : w.heap.size ≤ w.heap.size + 1 + 1 + 1)); obtain ⟨r0, r1, r2, r3, rl⟩ := Box.pool x9; clear hg9 x9)
      exact bodyPost_ret (v := .tuple #[u9, ppv A1 n c1 k0 k1 k2, .bool true]) (by simp [results, Try.results14, go_sem, r0, r1, r2, r3]) rfl (Or.inr ⟨l, q, HF.out, u9, A1, c1, by rw [HK.out.1, HK.out.2.1, HK.out.2.2], HV9.out, HR9.out, HF9.out⟩)
    have hdk : decide ((k : Int) < (m : Int)) = true := decide_eq_true (by omega)
    obtain ⟨s, hs⟩ : ∃ s, ss[k]? = some s := ⟨ss[k]'(by rw [HSl.out]; exact hlt), by simp [HSl.out, hlt]⟩
    have hs3 := HSs.out s (List.mem_of_getElem? hs)
    obtain ⟨ad, rfl, hadb, hcs⟩ := (HRs.out _ HT.out.gp).at (k := k) (u := .int .i64 s) (by simp [is, hs])
    have hki : (k : Int) < (m : Int) := by omega
    have HSk := Lib.hid hs
    have HS3 := Lib.hid hs3
    have SO := Lib.hid fun w' (h : Below wr.heap.size wr w') => (fun (t : RfSt w w' b conv soft seq size opn A n cap h0 h1 h2 A1 c1 q.ps q.h0 q.h1 q.h2 u9 l) => (⟨t.gp.1.1, t.gp.1.2.1, t.gp.1.2.2.1, t.gp.1.2.2.2.1, t.gp.1.2.2.2.2.1, t.q.cell 0, t.q.cell 1, t.q.cell 2, t.q.cell 3, (h.cell (by rw [addr_add_block]; exact hadb)).trans hcs⟩ : w'.cell? ⟨w.heap.size, 0, none⟩ = some (.int .i64 conv) ∧ w'.cell? ⟨w.heap.size, 1, none⟩ = some (.int .i64 soft) ∧ w'.cell? ⟨w.heap.size, 2, none⟩ = some (.int .i64 seq) ∧ w'.cell? ⟨w.heap.size, 3, none⟩ = some (.int .i64 size) ∧ w'.cell? ⟨w.heap.size, 4, none⟩ = some (.int .i64 opn) ∧ w'.cell? ⟨b, 0, none⟩ = some (.slice A1 n c1) ∧ w'.cell? ⟨b, 1, none⟩ = some (.int .i64 q.h0) ∧ w'.cell? ⟨b, 2, none⟩ = some (.int .i64 q.h1) ∧ w'.cell? ⟨b, 3, none⟩ = some (.int .i64 q.h2) ∧ w'.cell? (ad.add k) = some (.int .i64 (s : Int)))) (HT.out.on h)
    have HBW := Lib.hid (show w.heap.size + 1 + 1 + 1 ≤ wr.heap.size by have := HT.out.hb; have := HT.out.q.lt; omega)
    have HRd := Lib.hid fun w' (h : Below wr.heap.size wr w') => (HT.out.on h).row.rd (HT.out.on h).gp.2.2.size
    cases hstp : stp conv size q s with
    | none =>
      have HSt := Lib.hid fun w' (h : Below wr.heap.size wr w') => rlstep_no conv soft seq size opn A1 n c1 q s w' HM.out HQ.out.2 HS.out HQ.out.1 (HRd.out _ h) hs3 hstp
      have HF := Lib.hid (plan_stop HPl.out hs hstp)
      clear hs hs3 hstp
      generalize hk0 : q.h0 = k0 at *
      generalize hk1 : q.h1 = k1 at *
      generalize hk2 : q.h2 = k2 at *
      clear hk0 hk1 hk2 c0 c1' c2 c3 c4 cl b0 b1 b2 b3 bl hcs
      obtain ⟨c0, c1', c2, c3, c4, b0, b1, b2, b3, hcs⟩ := SO.out wr (Below.refl _ _)
      go_wp2_with fail
      apply wp_meetQ (fun w' ba bp g c => RfSt w w' b conv soft seq size opn A n cap h0 h1 h2 A1 c1 q.ps k0 k1 k2 u9 l)
      · go_region_held3 (fun w' => w'.cell? ⟨w.heap.size, 0, none⟩ = some (.int .i64 conv) ∧ w'.cell? ⟨w.heap.size, 1, none⟩ = some (.int .i64 soft) ∧ w'.cell? ⟨w.heap.size, 2, none⟩ = some (.int .i64 seq) ∧ w'.cell? ⟨w.heap.size, 3, none⟩ = some (.int .i64 size) ∧ w'.cell? ⟨w.heap.size, 4, none⟩ = some (.int .i64 opn) ∧ w'.cell? ⟨b, 0, none⟩ = some (.slice A1 n c1) ∧ w'.cell? ⟨b, 1, none⟩ = some (.int .i64 k0) ∧ w'.cell? ⟨b, 2, none⟩ = some (.int .i64 k1) ∧ w'.cell? ⟨b, 3, none⟩ = some (.int .i64 k2) ∧ w'.cell? (ad.add k) = some (.int .i64 (s : Int)))
          (first | (refine SO.out _ ?_; first | with_reducible exact B6 | with_reducible exact below_alloc1 B6 | with_reducible exact below_alloc1 (below_alloc1 B6) | with_reducible exact BW2 | with_reducible exact BW4 | with_reducible exact (Below.refl _ _).drew | with_reducible exact ((Below.refl _ _).alloc (Nat.le_refl _) _).drew | with_reducible exact (below_alloc1 ((Below.refl _ _).alloc (Nat.le_refl _) _)).drew | with_reducible exact (Below.refl _ _).alloc (Nat.le_refl _) _ | with_reducible exact below_alloc1 ((Below.refl _ _).alloc (Nat.le_refl _) _)))
          ((first
            | ((with_reducible refine (HSt.out wr.drew (Below.refl _ _).drew).mono ?_); rintro e w6 ⟨rfl, hb⟩; have B6 : Below wr.heap.size wr w6 := bthen (Below.refl _ _).drew hb; have O6 : w6.ownsRow wr.heap.size 3 1 (.slice none 0 0) 0 [] := World.ownsRow_nil _ _ _ _)
            | ((with_reducible refine (HSt.out (wr.alloc (.cells #[.int .i64 0, .int .i64 0] 48)).drew ((Below.refl _ _).alloc (Nat.le_refl _) _).drew).mono ?_); rintro e w6 ⟨rfl, hb⟩; have O6 : w6.ownsRow wr.heap.size 3 1 (.slice none 0 0) 0 [] := World.ownsRow_nil _ _ _ _; obtain ⟨B6, BW2, XA4, XP4, OW4, BW4, ⟨ya0, fa0⟩, ⟨ya1, fa1⟩, ⟨yp0, fp0⟩, ⟨yp1, fp1⟩, ⟨yp2, fp2⟩, ⟨yp3, fp3⟩⟩ := ord_c (z := 0) (x := 0) (A2 := A1) (n2 := n) (c2 := c1) (m0 := k0) (m1 := k1) (m2 := k2) hb O6)
            | ((with_reducible refine (HSt.out (wr.alloc (.cells #[.slice none 0 0, .int .i64 0, .int .i64 0, .int .i64 0] 27)).drew ((Below.refl _ _).alloc (Nat.le_refl _) _).drew).mono ?_); rintro e w6 ⟨rfl, hb⟩; have O6 : w6.ownsRow wr.heap.size 3 1 (.slice none 0 0) 0 [] := World.ownsRow_nil _ _ _ _; obtain ⟨B6, BW2, XA4, XP4, OW4, BW4, ⟨yp0, fp0⟩, ⟨yp1, fp1⟩, ⟨yp2, fp2⟩, ⟨yp3, fp3⟩⟩ := ord_d (z := 0) (x := 0) (A2 := A1) (n2 := n) (c2 := c1) (m0 := k0) (m1 := k1) (m2 := k2) hb O6)
            | ((with_reducible refine (HSt.out ((wr.alloc (.cells #[.int .i64 0, .int .i64 0] 48)).alloc (.cells #[.slice none 0 0, .int .i64 0, .int .i64 0, .int .i64 0] 27)).drew (below_alloc1 ((Below.refl _ _).alloc (Nat.le_refl _) _)).drew).mono ?_); rintro e w6 ⟨rfl, hb⟩; have O6 : w6.ownsRow wr.heap.size 3 1 (.slice none 0 0) 0 [] := World.ownsRow_nil _ _ _ _; obtain ⟨B6, BW2, XA4, XP4, OW4, BW4, ⟨ya0, fa0⟩, ⟨ya1, fa1⟩, ⟨yp0, fp0⟩, ⟨yp1, fp1⟩, ⟨yp2, fp2⟩, ⟨yp3, fp3⟩⟩ := ord_e (z := 0) (x := 0) (A2 := A1) (n2 := n) (c2 := c1) (m0 := k0) (m1 := k1) (m2 := k2) hb O6)
            | ((with_reducible refine (HSt.out ((wr.alloc (.cells #[.slice none 0 0, .int .i64 0, .int .i64 0, .int .i64 0] 27)).alloc (.cells #[.int .i64 0, .int .i64 0] 48)).drew (below_alloc1 ((Below.refl _ _).alloc (Nat.le_refl _) _)).drew).mono ?_); rintro e w6 ⟨rfl, hb⟩; have O6 : w6.ownsRow wr.heap.size 3 1 (.slice none 0 0) 0 [] := World.ownsRow_nil _ _ _ _; obtain ⟨B6, BW2, XA4, XP4, OW4, BW4, ⟨ya0, fa0⟩, ⟨ya1, fa1⟩, ⟨yp0, fp0⟩, ⟨yp1, fp1⟩, ⟨yp2, fp2⟩, ⟨yp3, fp3⟩⟩ := ord_f (z := 0) (x := 0) (A2 := A1) (n2 := n) (c2 := c1) (m0 := k0) (m1 := k1) (m2 := k2) hb O6)
            | fail))
        · obtain ⟨BF, XF, PF, OF⟩ := ord_a (z := 0) (x := 0) (A2 := A1) (n2 := n) (c2 := c1) (m0 := k0) (m1 := k1) (m2 := k2) B6 O6
          have F := HT.out.on BF
          clear BF XF PF OF B6 O6
          generalize World.alloc _ _ = w9 at F ⊢
          generalize w6.heap.size + 1 = l2 at F ⊢
          generalize w6.heap.size = l1 at F ⊢
          obtain ⟨i6, j6, _⟩ : ∃ i j : Nat, True := ⟨0, 0, trivial⟩
          exact ⟨l1, l2, i6, j6, F, rfl⟩
        · obtain ⟨BF, XF, PF, OF⟩ := ord_b (z := 0) (x := 0) (A2 := A1) (n2 := n) (c2 := c1) (m0 := k0) (m1 := k1) (m2 := k2) B6 O6
          have F := HT.out.on BF
          clear BF XF PF OF B6 O6
          generalize World.alloc _ _ = w9 at F ⊢
          generalize w6.heap.size + 1 = l2 at F ⊢
          generalize w6.heap.size = l1 at F ⊢
          obtain ⟨i6, j6, _⟩ : ∃ i j : Nat, True := ⟨0, 0, trivial⟩
          exact ⟨l2, l1, i6, j6, F, rfl⟩
        · have F := HT.out.on BW4
          clear BW2 BW4 XA4 XP4 OW4 yp0 fp0 yp1 fp1 yp2 fp2 yp3 fp3 ya0 fa0 ya1 fa1 B6 O6
          generalize World.setCell _ _ _ = w9 at F ⊢
          generalize w6.heap.size = l1 at F ⊢
          generalize wr.heap.size = l2 at F ⊢
          obtain ⟨i6, j6, _⟩ : ∃ i j : Nat, True := ⟨0, 0, trivial⟩
          exact ⟨l2, l1, i6, j6, F, rfl⟩
        · have F := HT.out.on BW4
          clear BW2 BW4 XA4 XP4 OW4 yp0 fp0 yp1 fp1 yp2 fp2 yp3 fp3 ya0 fa0 ya1 fa1 B6 O6
          generalize World.setCell _ _ _ = w9 at F ⊢
          generalize wr.heap.size + 1 = l1 at F ⊢
          generalize wr.heap.size = l2 at F ⊢
          obtain ⟨i6, j6, _⟩ : ∃ i j : Nat, True := ⟨0, 0, trivial⟩
          exact ⟨l2, l1, i6, j6, F, rfl⟩
        · have F := HT.out.on BW4
          clear BW2 BW4 XA4 XP4 OW4 yp0 fp0 yp1 fp1 yp2 fp2 yp3 fp3 B6 O6
          generalize World.setCell _ _ _ = w9 at F ⊢
          generalize w6.heap.size = l1 at F ⊢
          generalize wr.heap.size = l2 at F ⊢
          obtain ⟨i6, j6, _⟩ : ∃ i j : Nat, True := ⟨0, 0, trivial⟩
          exact ⟨l1, l2, i6, j6, F, rfl⟩
        · have F := HT.out.on BW4
          clear BW2 BW4 XA4 XP4 OW4 yp0 fp0 yp1 fp1 yp2 fp2 yp3 fp3 ya0 fa0 ya1 fa1 B6 O6
          generalize World.setCell _ _ _ = w9 at F ⊢
          generalize wr.heap.size + 1 = l1 at F ⊢
          generalize wr.heap.size = l2 at F ⊢
          obtain ⟨i6, j6, _⟩ : ∃ i j : Nat, True := ⟨0, 0, trivial⟩
          exact ⟨l1, l2, i6, j6, F, rfl⟩
      rintro w7 ba bp g6 p6 hT7
      have H7 := Lib.hid hT7
      clear hT7 c0 c1' c2 c3 c4 b0 b1 b2 b3 hcs HT SO HSt HRd
      obtain ⟨a0, a1, a2, a3, al⟩ := id H7.out.gp.2.1
      go_wp2_with fail
      go_still_tail 2, (by kernel_rfl)
      change wpList _ _ _ _ _ w7.drew
      have H8 := Lib.hid (H7.out.on (Below.refl _ _).drew)
      generalize w7.drew = w8 at H8 ⊢
      clear a0 a1 a2 a3 al H7
      go_wp2_with ((with_reducible refine wpList_pool_store (o := ⟨none, .store _ _ _, _, _, _, _⟩) rfl _ _ rfl _ A none n 0 cap 0 h0 h1 h2 0 0 0 rfl rfl H8.out.rs ?_); intro w9 x9 hg9; have HF9 := Lib.hid (H8.out.gp.2.2.grown hg9 H8.out.gp.2.2.size (fun k hk => by injection hk with hk; omega)); obtain ⟨r0, r1, r2, r3, rl⟩ := Box.pool x9; clear hg9 x9)
      exact bodyPost_ret (v := .tuple #[.slice none 0 0, ppv A n cap h0 h1 h2, .bool false]) (by simp [results, Try.results14, go_sem, r0, r1, r2, r3]) rfl (Or.inl ⟨HF.out, rfl, HF9.out⟩)
    | some aq =>
      obtain ⟨⟨z, x⟩, q'⟩ := aq
      have HSt := Lib.hid fun w' (h : Below wr.heap.size wr w') => rlstep_yes conv soft seq size opn A1 n c1 q q' z x s w' HM.out HQ.out.2 HS.out HQ.out.1 (HRd.out _ h) hs3 hstp
      have HF := Lib.hid (plan_more HPl.out hs hstp)
      clear hs hs3 hstp
      generalize hk0 : q.h0 = k0 at *
      generalize hk1 : q.h1 = k1 at *
      generalize hk2 : q.h2 = k2 at *
      generalize hm0 : q'.h0 = m0 at *
      generalize hm1 : q'.h1 = m1 at *
      generalize hm2 : q'.h2 = m2 at *
      have HMq := Lib.hid (And.intro hm0 (And.intro hm1 hm2))
      clear hm0 hm1 hm2 hk0 hk1 hk2 c0 c1' c2 c3 c4 cl b0 b1 b2 b3 bl hcs
      obtain ⟨c0, c1', c2, c3, c4, b0, b1, b2, b3, hcs⟩ := SO.out wr (Below.refl _ _)
      go_wp2_with fail
      apply wp_meetQ (fun w' ba bp g c => RfSt w w' b conv soft seq size opn A n cap h0 h1 h2 A1 c1 q.ps k0 k1 k2 u9 l ∧ Box w' ba 48 (pacl z x) ∧ Box w' bp 27 (plcs (some ⟨g, 0, none⟩) n c m0 m1 m2) ∧ w'.ownsRow (w.heap.size + 1 + 1 + 1) 3 1 (.slice (some ⟨g, 0, none⟩) n c) n (is q'.ps))
      · go_region_held3 (fun w' => w'.cell? ⟨w.heap.size, 0, none⟩ = some (.int .i64 conv) ∧ w'.cell? ⟨w.heap.size, 1, none⟩ = some (.int .i64 soft) ∧ w'.cell? ⟨w.heap.size, 2, none⟩ = some (.int .i64 seq) ∧ w'.cell? ⟨w.heap.size, 3, none⟩ = some (.int .i64 size) ∧ w'.cell? ⟨w.heap.size, 4, none⟩ = some (.int .i64 opn) ∧ w'.cell? ⟨b, 0, none⟩ = some (.slice A1 n c1) ∧ w'.cell? ⟨b, 1, none⟩ = some (.int .i64 k0) ∧ w'.cell? ⟨b, 2, none⟩ = some (.int .i64 k1) ∧ w'.cell? ⟨b, 3, none⟩ = some (.int .i64 k2) ∧ w'.cell? (ad.add k) = some (.int .i64 (s : Int)))
          (first | (refine SO.out _ ?_; first | with_reducible exact B6 | with_reducible exact below_alloc1 B6 | with_reducible exact below_alloc1 (below_alloc1 B6) | with_reducible exact BW2 | with_reducible exact BW4 | with_reducible exact (Below.refl _ _).drew | with_reducible exact ((Below.refl _ _).alloc (Nat.le_refl _) _).drew | with_reducible exact (below_alloc1 ((Below.refl _ _).alloc (Nat.le_refl _) _)).drew | with_reducible exact (Below.refl _ _).alloc (Nat.le_refl _) _ | with_reducible exact below_alloc1 ((Below.refl _ _).alloc (Nat.le_refl _) _)))
          ((first
            | ((with_reducible refine (HSt.out wr.drew (Below.refl _ _).drew).mono ?_); rintro e w6 ⟨g6, p6, rfl, hown, hb⟩; have B6 : Below wr.heap.size wr w6 := bthen (Below.refl _ _).drew hb; have O6 : w6.ownsRow wr.heap.size 3 1 (.slice (some ⟨g6, 0, none⟩) n p6) n (is q'.ps) := hown)
            | ((with_reducible refine (HSt.out (wr.alloc (.cells #[.int .i64 0, .int .i64 0] 48)).drew ((Below.refl _ _).alloc (Nat.le_refl _) _).drew).mono ?_); rintro e w6 ⟨g6, p6, rfl, hown, hb⟩; have O6 : w6.ownsRow wr.heap.size 3 1 (.slice (some ⟨g6, 0, none⟩) n p6) n (is q'.ps) := own_base0 hown (by simp); obtain ⟨B6, BW2, XA4, XP4, OW4, BW4, ⟨ya0, fa0⟩, ⟨ya1, fa1⟩, ⟨yp0, fp0⟩, ⟨yp1, fp1⟩, ⟨yp2, fp2⟩, ⟨yp3, fp3⟩⟩ := ord_c (z := z) (x := x) (A2 := (some ⟨g6, 0, none⟩)) (n2 := n) (c2 := p6) (m0 := m0) (m1 := m1) (m2 := m2) hb O6)
            | ((with_reducible refine (HSt.out (wr.alloc (.cells #[.slice none 0 0, .int .i64 0, .int .i64 0, .int .i64 0] 27)).drew ((Below.refl _ _).alloc (Nat.le_refl _) _).drew).mono ?_); rintro e w6 ⟨g6, p6, rfl, hown, hb⟩; have O6 : w6.ownsRow wr.heap.size 3 1 (.slice (some ⟨g6, 0, none⟩) n p6) n (is q'.ps) := own_base0 hown (by simp); obtain ⟨B6, BW2, XA4, XP4, OW4, BW4, ⟨yp0, fp0⟩, ⟨yp1, fp1⟩, ⟨yp2, fp2⟩, ⟨yp3, fp3⟩⟩ := ord_d (z := z) (x := x) (A2 := (some ⟨g6, 0, none⟩)) (n2 := n) (c2 := p6) (m0 := m0) (m1 := m1) (m2 := m2) hb O6)
            | ((with_reducible refine (HSt.out ((wr.alloc (.cells #[.int .i64 0, .int .i64 0] 48)).alloc (.cells #[.slice none 0 0, .int .i64 0, .int .i64 0, .int .i64 0] 27)).drew (below_alloc1 ((Below.refl _ _).alloc (Nat.le_refl _) _)).drew).mono ?_); rintro e w6 ⟨g6, p6, rfl, hown, hb⟩; have O6 : w6.ownsRow wr.heap.size 3 1 (.slice (some ⟨g6, 0, none⟩) n p6) n (is q'.ps) := own_base0 hown (by simp <;> omega); obtain ⟨B6, BW2, XA4, XP4, OW4, BW4, ⟨ya0, fa0⟩, ⟨ya1, fa1⟩, ⟨yp0, fp0⟩, ⟨yp1, fp1⟩, ⟨yp2, fp2⟩, ⟨yp3, fp3⟩⟩ := ord_e (z := z) (x := x) (A2 := (some ⟨g6, 0, none⟩)) (n2 := n) (c2 := p6) (m0 := m0) (m1 := m1) (m2 := m2) hb O6)
            | ((with_reducible refine (HSt.out ((wr.alloc (.cells #[.slice none 0 0, .int .i64 0, .int .i64 0, .int .i64 0] 27)).alloc (.cells #[.int .i64 0, .int .i64 0] 48)).drew (below_alloc1 ((Below.refl _ _).alloc (Nat.le_refl _) _)).drew).mono ?_); rintro e w6 ⟨g6, p6, rfl, hown, hb⟩; have O6 : w6.ownsRow wr.heap.size 3 1 (.slice (some ⟨g6, 0, none⟩) n p6) n (is q'.ps) := own_base0 hown (by simp <;> omega); obtain ⟨B6, BW2, XA4, XP4, OW4, BW4, ⟨ya0, fa0⟩, ⟨ya1, fa1⟩, ⟨yp0, fp0⟩, ⟨yp1, fp1⟩, ⟨yp2, fp2⟩, ⟨yp3, fp3⟩⟩ := ord_f (z := z) (x := x) (A2 := (some ⟨g6, 0, none⟩)) (n2 := n) (c2 := p6) (m0 := m0) (m1 := m1) (m2 := m2) hb O6)
            | fail))
        · obtain ⟨BF, XF, PF, OF⟩ := ord_a (z := z) (x := x) (A2 := (some ⟨g6, 0, none⟩)) (n2 := n) (c2 := p6) (m0 := m0) (m1 := m1) (m2 := m2) B6 O6
          have F := And.intro (HT.out.on BF) (And.intro XF (And.intro PF (own_base0 OF HBW.out)))
          clear BF XF PF OF B6 O6
          generalize World.alloc _ _ = w9 at F ⊢
          generalize w6.heap.size + 1 = l2 at F ⊢
          generalize w6.heap.size = l1 at F ⊢
          exact ⟨l1, l2, g6, p6, F, rfl⟩
        · obtain ⟨BF, XF, PF, OF⟩ := ord_b (z := z) (x := x) (A2 := (some ⟨g6, 0, none⟩)) (n2 := n) (c2 := p6) (m0 := m0) (m1 := m1) (m2 := m2) B6 O6
          have F := And.intro (HT.out.on BF) (And.intro XF (And.intro PF (own_base0 OF HBW.out)))
          clear BF XF PF OF B6 O6
          generalize World.alloc _ _ = w9 at F ⊢
          generalize w6.heap.size + 1 = l2 at F ⊢
          generalize w6.heap.size = l1 at F ⊢
          exact ⟨l2, l1, g6, p6, F, rfl⟩
        · have F := And.intro (HT.out.on BW4) (And.intro XA4 (And.intro XP4 (own_base0 OW4 HBW.out)))
          clear BW2 BW4 XA4 XP4 OW4 yp0 fp0 yp1 fp1 yp2 fp2 yp3 fp3 ya0 fa0 ya1 fa1 B6 O6
          generalize World.setCell _ _ _ = w9 at F ⊢
          generalize w6.heap.size = l1 at F ⊢
          generalize wr.heap.size = l2 at F ⊢
          exact ⟨l2, l1, g6, p6, F, rfl⟩
        · have F := And.intro (HT.out.on BW4) (And.intro XA4 (And.intro XP4 (own_base0 OW4 HBW.out)))
          clear BW2 BW4 XA4 XP4 OW4 yp0 fp0 yp1 fp1 yp2 fp2 yp3 fp3 ya0 fa0 ya1 fa1 B6 O6
          generalize World.setCell _ _ _ = w9 at F ⊢
          generalize wr.heap.size + 1 = l1 at F ⊢
          generalize wr.heap.size = l2 at F ⊢
          exact ⟨l2, l1, g6, p6, F, rfl⟩
        · have F := And.intro (HT.out.on BW4) (And.intro XA4 (And.intro XP4 (own_base0 OW4 HBW.out)))
          clear BW2 BW4 XA4 XP4 OW4 yp0 fp0 yp1 fp1 yp2 fp2 yp3 fp3 B6 O6
          generalize World.setCell _ _ _ = w9 at F ⊢
          generalize w6.heap.size = l1 at F ⊢
          generalize wr.heap.size = l2 at F ⊢
          exact ⟨l1, l2, g6, p6, F, rfl⟩
        · have F := And.intro (HT.out.on BW4) (And.intro XA4 (And.intro XP4 (own_base0 OW4 HBW.out)))
          clear BW2 BW4 XA4 XP4 OW4 yp0 fp0 yp1 fp1 yp2 fp2 yp3 fp3 ya0 fa0 ya1 fa1 B6 O6
          generalize World.setCell _ _ _ = w9 at F ⊢
          generalize wr.heap.size + 1 = l1 at F ⊢
          generalize wr.heap.size = l2 at F ⊢
          exact ⟨l1, l2, g6, p6, F, rfl⟩
      rintro w7 ba7 bp7 g6 p6 ⟨hT7, xa7, xp7, o7⟩
      have H7 := Lib.hid hT7
      have XP7 := Lib.hid xp7
      have HO7 := Lib.hid o7
      have hBs : w.heap.size + 1 + 1 + 1 ≤ w7.heap.size := by have := hT7.hb; have := hT7.q.lt; omega
      obtain ⟨d0, d0'⟩ := xa7.at2
      clear hT7 xa7 xp7 o7 c0 c1' c2 c3 c4 b0 b1 b2 b3 hcs HT SO HSt HRd
      go_wp2_with (first
        | (at_builtin; (refine wpList_append_new _ rfl _ _ _ rfl (w.heap.size + 1 + 1 + 1) 48 _ 2 16 elemAt u9 l.length _ rfl [.int .i64 z, .int .i64 x] rfl H7.out.out rfl (by simp [Value.oneCell']) (by have := HLl.out; simp only [maxLen]; omega) (by have := HLl.out; omega) hBs ?_); intro V8 w8 hown8 hg8; have H8 := Lib.hid (H7.out.more HP.out hg8 hown8); have XP8 := Lib.hid (box_swell XP7.out H7.out.out (by decide) hg8); have HO8 := Lib.hid (row_swell HO7.out H7.out.out HP.out (by decide) hg8); clear d0 d0' hBs hown8 hg8; obtain ⟨b0, b1, b2, b3, bl⟩ := XP8.out.pool)
        | ((with_reducible refine wpList_pool_store (o := ⟨none, .store _ _ _, _, _, _, _⟩) rfl _ _ rfl _ (some ⟨g6, 0, none⟩) A1 n n p6 c1 m0 m1 m2 k0 k1 k2 rfl rfl H8.out.q ?_); intro w9 x9 hg9; have H9 := Lib.hid (H8.out.put HO8.out x9 hg9); clear x9 hg9)
        | fail)
      go_roundw
      case rel =>
        refine ⟨k + 1, l ++ [(z, x)], q', some ⟨g6, 0, none⟩, p6, by omega, by go_num, HF.out, ?_⟩
        rw [HMq.out.1, HMq.out.2.1, HMq.out.2.2]
        exact H9.out
      case measure => first | (simp [intOf]; done) | (simp [intOf]; omega)
end
end Go.Proofs.Ytbhcemipjfdemaa

/-
  Package pool: the room of a head; a pool in which a stream has a head.
-/
import Derived.Test.YtbhcemipjfdemaaPoF
namespace Go.Proofs.Ytbhcemipjfdemaa
open Go.RowKit Geom Leaf Pol
set_option linter.unusedVariables false

theorem LiesP.head {w : World} {b : Nat} {A : Option Addr} {n cap : Nat} {h0 h1 h2 : Int} (h : LiesP w b A n cap h0 h1 h2) {s : Nat} (hs : s < 3) : w.cell? ⟨b, 1 + s, none⟩ = some (.int .i64 (hd h0 h1 h2 s)) := by
  obtain rfl | rfl | rfl : s = 0 ∨ s = 1 ∨ s = 2 := by omega
  · exact h.2.1
  · exact h.2.2.1
  · exact h.2.2.2.1
theorem Box.setHead {w : World} {b : Nat} {A : Option Addr} {n cap : Nat} {h0 h1 h2 : Int} (h : Box w b 27 (plcs A n cap h0 h1 h2)) {s : Nat} (hs : s < 3) (z : Int) :
    Box (w.setCell ⟨b, 1 + s, none⟩ (.int .i64 z)) b 27 (plcs A n cap (sH s 0 z h0) (sH s 1 z h1) (sH s 2 z h2)) := by
  have := h.set (1 + s) (.int .i64 z)
  obtain rfl | rfl | rfl : s = 0 ∨ s = 1 ∨ s = 2 := by omega
  · exact this
  · exact this
  · exact this

section
variable (conv soft seq size opn : Int) (A : Option Addr) (n cap : Nat) (ps : List Int) (h0 h1 h2 : Int) (s : Nat)
set_option maxRecDepth 100000 in
/-- no head: no room -/
theorem proom_no (w : World) (hm : n ≤ 64) (S : Some conv seq size) (hs : s < 3) (hh : hd h0 h1 h2 s = 0) :
    Calls Try.prog 31 #[pgv conv soft seq size opn, ppv A n cap h0 h1 h2, .int .i64 s] w fun e w' => e = .returned (.int .i64 0) ∧ Below w.heap.size w w' := by
  have H0 := Lib.hid (GP.new w conv soft seq size opn A n cap h0 h1 h2 23 27)
  have HI := Lib.hid fun w' => pindex_any conv soft seq size opn 0 A n cap h0 h1 h2 w' hm S.1 (by omega)
  rw [(ix_no (conv := conv) (n := n) (z := 0) (by have := S.1; omega)).1, (ix_no (conv := conv) (n := n) (z := 0) (by have := S.1; omega)).2] at HI
  have hsI : (s : Int) < 3 := by omega
  have HS := Lib.hid hs
  have HH := Lib.hid hh
  clear S hs hh
  go_enter Try.func31, Try.ntmps31
  go_wp2_with fail
  generalize World.alloc _ _ = w0 at H0 ⊢
  refine wp_region_class (fun w' => GP w w' conv soft seq size opn A n cap h0 h1 h2) (by kernel_rfl) (by kernel_rfl) H0.out.drew ?_
  intro X hX f hf hg
  have c0 := fun x => (hf x).1.1
  have c1 := fun x => (hf x).1.2.1
  have c2 := fun x => (hf x).1.2.2.1
  have c3 := fun x => (hf x).1.2.2.2.1
  have c4 := fun x => (hf x).1.2.2.2.2.1
  have a0 := fun x => (hf x).2.1.1
  have a1 := fun x => (hf x).2.1.2.1
  have a2 := fun x => (hf x).2.1.2.2.1
  have a3 := fun x => (hf x).2.1.2.2.2.1
  have ah := fun x => ((hf x).2.1.head HS.out).trans (by rw [HH.out])
  have Hf := Lib.hid hf
  have Hg := Lib.hid hg
  clear hf hg H0
  repeat (go_big_quiet_step (exact calls_class (HI.out _) (fun _ hb => Hg.out _ ((Hf.out _).below hb))))
  refine wpQuiet_nil ?_
  rintro _ ⟨x, rfl⟩
  have hbb := (Hf.out x).2.2
  go_wp2
  go_ret
  exact ⟨rfl, hbb⟩
set_option maxRecDepth 100000 in
theorem proom_head (j : Nat) (w : World) (hm : n ≤ 64) (hn : ps.length = n) (S : Some conv seq size) (hs : s < 3) (hj : j < n) (hh : hd h0 h1 h2 s = conv + j) (hx0 : 0 ≤ ps.getD j 0) (hx1 : ps.getD j 0 ≤ size) (hr : Rd w w.heap.size A (is ps)) :
    Calls Try.prog 31 #[pgv conv soft seq size opn, ppv A n cap h0 h1 h2, .int .i64 s] w fun e w' => e = .returned (.int .i64 (size - ps.getD j 0)) ∧ Below w.heap.size w w' := by
  obtain ⟨q1, q2, q3, q4, q5⟩ := S
  have H0 := Lib.hid (GP.new w conv soft seq size opn A n cap h0 h1 h2 23 27)
  have HI := Lib.hid fun w' => pindex_any conv soft seq size opn (conv + j) A n cap h0 h1 h2 w' hm q1 (by omega)
  rw [(ix_yes (conv := conv) (n := n) (z := conv + j) (by omega) (by omega)).1, (ix_yes (conv := conv) (n := n) (z := conv + j) (by omega) (by omega)).2, show conv + (j : Int) - conv = j by omega] at HI
  have hsI : (s : Int) < 3 := by omega
  have hjI : (j : Int) < (n : Int) := by omega
  have HS := Lib.hid hs
  have HH := Lib.hid hh
  have HR := Lib.hid hr
  have HN := Lib.hid hn
  have hw := IntWalk.i64_in (size - ps.getD j 0) (by omega)
  clear hs hh hr hn
  go_enter Try.func31, Try.ntmps31
  go_wp2_with fail
  generalize World.alloc _ _ = w0 at H0 ⊢
  refine wp_region_class (fun w' => GP w w' conv soft seq size opn A n cap h0 h1 h2) (by kernel_rfl) (by kernel_rfl) H0.out.drew ?_
  intro X hX f hf hg
  have c0 := fun x => (hf x).1.1
  have c1 := fun x => (hf x).1.2.1
  have c2 := fun x => (hf x).1.2.2.1
  have c3 := fun x => (hf x).1.2.2.2.1
  have c4 := fun x => (hf x).1.2.2.2.2.1
  have a0 := fun x => (hf x).2.1.1
  have a1 := fun x => (hf x).2.1.2.1
  have a2 := fun x => (hf x).2.1.2.2.1
  have a3 := fun x => (hf x).2.1.2.2.2.1
  have ah := fun x => ((hf x).2.1.head HS.out).trans (by rw [HH.out])
  have Hf := Lib.hid hf
  have Hg := Lib.hid hg
  clear hf hg H0
  repeat (go_big_quiet_step (exact calls_class (HI.out _) (fun _ hb => Hg.out _ ((Hf.out _).below hb))))
  refine wpQuiet_nil ?_
  rintro _ ⟨x, rfl⟩
  have H1 := Lib.hid (Hf.out x)
  clear c0 c1 c2 c3 c4 a0 a1 a2 a3 ah
  generalize f x = w1 at H1 ⊢
  obtain ⟨c0, c1, c2, c3, c4, cl⟩ := id H1.out.1
  obtain ⟨a0, a1, a2, a3, al⟩ := id H1.out.2.1
  obtain ⟨ad, rfl, _, pc⟩ := (Rd.gp HR.out H1.out).point (k := j) (by rw [HN.out]; omega)
  generalize hy : ps.getD j 0 = y at *
  have HY := Lib.hid hy
  clear hy
  go_wp2
  go_quiet (fail)
  have hb4 := below_draws H1.out.2.2 nq
  generalize w1.drewN nq = w4 at hb4 ⊢
  go_wp2
  go_ret
  exact ⟨ret_int (by rw [HY.out]), hb4⟩
end
/-- what stands in memory while a pool's copy is turned: the measure, the pool, the result's variable r, the copy's variable b over the row g -/
structure HdSt (w w' : World) (r base b g c : Nat) (conv soft seq size opn : Int) (A : Option Addr) (n cap : Nat) (h0 h1 h2 : Int) (ps : List Int) (k0 k1 k2 : Int) : Prop where
  gp : GP w w' conv soft seq size opn A n cap h0 h1 h2
  rs : Box w' r 27 (plcs none 0 0 0 0 0)
  q : Box w' b 27 (plcs (some ⟨g, 0, none⟩) n c k0 k1 k2)
  own : w'.ownsRow base 3 1 (.slice (some ⟨g, 0, none⟩) n c) n (is ps)
  hw : w.heap.size + 1 < r
  hr : r < base
  hb : base ≤ b
  hg : base ≤ g ∧ g < w'.heap.size
section
variable {w w' w2 : World} {r base b g c : Nat} {conv soft seq size opn : Int} {A : Option Addr} {n cap : Nat} {h0 h1 h2 : Int} {ps : List Int} {k0 k1 k2 : Int}
theorem HdSt.on (h : HdSt w w' r base b g c conv soft seq size opn A n cap h0 h1 h2 ps k0 k1 k2) (hb : Below w'.heap.size w' w2) : HdSt w w2 r base b g c conv soft seq size opn A n cap h0 h1 h2 ps k0 k1 k2 :=
  ⟨h.gp.below hb, h.rs.on hb, h.q.on hb, own_below h.own hb, h.hw, h.hr, h.hb, h.hg.1, Nat.lt_of_lt_of_le h.hg.2 hb.size⟩
theorem HdSt.drewN (h : HdSt w w' r base b g c conv soft seq size opn A n cap h0 h1 h2 ps k0 k1 k2) (q : Nat) : HdSt w (w'.drewN q) r base b g c conv soft seq size opn A n cap h0 h1 h2 ps k0 k1 k2 :=
  ⟨h.gp.drewN q, h.rs, h.q, h.own, h.hw, h.hr, h.hb, h.hg⟩
theorem HdSt.ne (h : HdSt w w' r base b g c conv soft seq size opn A n cap h0 h1 h2 ps k0 k1 k2) (hn : 0 < n) : b ≠ g := by
  rintro rfl
  have hc := h.q.cell 0
  have h2 := h.own.cellAt 0 (by omega)
  rw [hc, show (is ps)[0]? = (ps[0]?).map (Value.int .i64) by simp [is]] at h2
  cases hp : ps[0]? <;> rw [hp] at h2 <;> cases h2
theorem GP.grown {k : Nat} (h : GP w w' conv soft seq size opn A n cap h0 h1 h2) (hg : w'.grownBy w2 (some k)) (hk : w.heap.size + 1 < k) : GP w w2 conv soft seq size opn A n cap h0 h1 h2 := by
  obtain ⟨⟨c0, c1, c2, c3, c4, cl⟩, ⟨a0, a1, a2, a3, al⟩, hb⟩ := h
  have e0 : ∀ o, w2.cell? ⟨w.heap.size, o, none⟩ = w'.cell? ⟨w.heap.size, o, none⟩ := fun o => World.cell?_of_block (hg.block w.heap.size cl (fun e => by injection e with e; omega))
  have e1 : ∀ o, w2.cell? ⟨w.heap.size + 1, o, none⟩ = w'.cell? ⟨w.heap.size + 1, o, none⟩ := fun o => World.cell?_of_block (hg.block (w.heap.size + 1) al (fun e => by injection e with e; omega))
  exact ⟨⟨(e0 0).trans c0, (e0 1).trans c1, (e0 2).trans c2, (e0 3).trans c3, (e0 4).trans c4, Nat.lt_of_lt_of_le cl hg.size⟩,
    ⟨(e1 0).trans a0, (e1 1).trans a1, (e1 2).trans a2, (e1 3).trans a3, Nat.lt_of_lt_of_le al hg.size⟩, hb.grown hg hb.size (fun j hj => by injection hj with hj; omega)⟩
/-- a point of the copy is laid -/
theorem HdSt.point (h : HdSt w w' r base b g c conv soft seq size opn A n cap h0 h1 h2 ps k0 k1 k2) (hn : 0 < n) (j : Nat) (x : Int) : HdSt w (w'.setCell ⟨g, j, none⟩ (.int .i64 x)) r base b g c conv soft seq size opn A n cap h0 h1 h2 (ps.set j x) k0 k1 k2 := by
  obtain ⟨o1, hg⟩ := h.own.stored j (.int .i64 x)
  rw [← is_set] at o1
  have h1 := h.hw
  have h2 := h.hr
  have h3 := h.hg
  exact ⟨h.gp.grown hg (by omega), h.rs.grown hg (by omega), h.q.grown hg (h.ne hn), o1, h.hw, h.hr, h.hb, h3.1, Nat.lt_of_lt_of_le h3.2 hg.size⟩
/-- a head of the copy is laid -/
theorem HdSt.head (h : HdSt w w' r base b g c conv soft seq size opn A n cap h0 h1 h2 ps k0 k1 k2) (hn : 0 < n) {s : Nat} (hs : s < 3) (z : Int) : HdSt w (w'.setCell ⟨b, 1 + s, none⟩ (.int .i64 z)) r base b g c conv soft seq size opn A n cap h0 h1 h2 ps (sH s 0 z k0) (sH s 1 z k1) (sH s 2 z k2) := by
  have hg := pgrown_cell w' ⟨b, 1 + s, none⟩ (.int .i64 z)
  have h1 := h.hw
  have h2 := h.hr
  have h3 := h.hg
  have h4 := h.hb
  exact ⟨h.gp.grown hg (show w.heap.size + 1 < b by omega), h.rs.grown hg (show r ≠ b by omega), h.q.setHead hs z, own_grown h.own hg (show g ≠ b from (h.ne hn).symm), h.hw, h.hr, h.hb, h3.1, Nat.lt_of_lt_of_le h3.2 hg.size⟩
end
end Go.Proofs.Ytbhcemipjfdemaa

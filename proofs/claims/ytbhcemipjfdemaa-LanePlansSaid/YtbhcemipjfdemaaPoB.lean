/-
  Package pool: pools in memory; used, partly, index; slices' Index and Contains; isHead.
-/
import Derived.Test.YtbhcemipjfdemaaPoM
import Derived.Test.YtbhcemipjfdemaaGeomO
import Derived.Test.YtbhcemipjfdemaaLf0
import Derived.Test.YtbhcemipjfdemaaStepA
namespace Go.Proofs.Ytbhcemipjfdemaa
open Go.RowKit Geom Leaf Pol
set_option linter.unusedVariables false

abbrev pgv (conv soft seq size opn : Int) : Value := .agg #[.int .i64 conv, .int .i64 soft, .int .i64 seq, .int .i64 size, .int .i64 opn]
abbrev ppv (A : Option Addr) (n cap : Nat) (h0 h1 h2 : Int) : Value := .agg #[.slice A n cap, .int .i64 h0, .int .i64 h1, .int .i64 h2]
/-- block b is a variable that holds a pool -/
def LiesP (w : World) (b : Nat) (A : Option Addr) (n cap : Nat) (h0 h1 h2 : Int) : Prop :=
  w.cell? ⟨b, 0, none⟩ = some (.slice A n cap) ∧ w.cell? ⟨b, 1, none⟩ = some (.int .i64 h0) ∧ w.cell? ⟨b, 2, none⟩ = some (.int .i64 h1) ∧ w.cell? ⟨b, 3, none⟩ = some (.int .i64 h2) ∧ b < w.heap.size
section
variable {w w' w2 : World} {b : Nat} {A : Option Addr} {n cap : Nat} {h0 h1 h2 conv soft seq size opn : Int}
theorem LiesP.new (w : World) (A : Option Addr) (n cap : Nat) (h0 h1 h2 : Int) (T : TypeId) (fr : Nat × Nat) :
    LiesP (w.alloc (.cells #[.slice A n cap, .int .i64 h0, .int .i64 h1, .int .i64 h2] T fr)) w.heap.size A n cap h0 h1 h2 := by
  have h := (MapKept.heap_alloc w (.cells #[.slice A n cap, .int .i64 h0, .int .i64 h1, .int .i64 h2] T fr)).1
  refine ⟨?_, ?_, ?_, ?_, by simp⟩ <;> (simp only [World.cell?]; rw [h]; rfl)
theorem LiesP.below (h : LiesP w b A n cap h0 h1 h2) (hb : Below w.heap.size w w') : LiesP w' b A n cap h0 h1 h2 := by
  obtain ⟨a0, a1, a2, a3, al⟩ := h
  exact ⟨(hb.cell (p := ⟨b, 0, none⟩) al).trans a0, (hb.cell (p := ⟨b, 1, none⟩) al).trans a1, (hb.cell (p := ⟨b, 2, none⟩) al).trans a2, (hb.cell (p := ⟨b, 3, none⟩) al).trans a3, Nat.lt_of_lt_of_le al hb.size⟩
theorem LiesP.drew (h : LiesP w b A n cap h0 h1 h2) : LiesP w.drew b A n cap h0 h1 h2 := h
theorem LiesP.drewN (h : LiesP w b A n cap h0 h1 h2) (q : Nat) : LiesP (w.drewN q) b A n cap h0 h1 h2 := h
/-- the heads, as a row -/
theorem LiesP.heads (h : LiesP w b A n cap h0 h1 h2) : Rd w w.heap.size (some ⟨b, 1, none⟩) (is [h0, h1, h2]) := fun _ => ⟨_, rfl, h.2.2.2.2, fun j u hj => by
  rcases j with _ | _ | _ | j
  · obtain rfl : Value.int .i64 h0 = u := by simpa [is] using hj
    exact h.2.1
  · obtain rfl : Value.int .i64 h1 = u := by simpa [is] using hj
    exact h.2.2.1
  · obtain rfl : Value.int .i64 h2 = u := by simpa [is] using hj
    exact h.2.2.2.1
  · simp [is] at hj⟩

/-- two variables at a function's start: the measure, the pool -/
@[reducible] def GP (w w' : World) (conv soft seq size opn : Int) (A : Option Addr) (n cap : Nat) (h0 h1 h2 : Int) : Prop :=
  Lies w' w.heap.size conv soft seq size opn ∧ LiesP w' (w.heap.size + 1) A n cap h0 h1 h2 ∧ Below w.heap.size w w'
theorem GP.new (w : World) (conv soft seq size opn : Int) (A : Option Addr) (n cap : Nat) (h0 h1 h2 : Int) (T T' : TypeId) :
    GP w ((w.alloc (.cells #[.int .i64 conv, .int .i64 soft, .int .i64 seq, .int .i64 size, .int .i64 opn] T)).alloc (.cells #[.slice A n cap, .int .i64 h0, .int .i64 h1, .int .i64 h2] T')) conv soft seq size opn A n cap h0 h1 h2 := by
  have hb := LiesP.new (w.alloc (.cells #[.int .i64 conv, .int .i64 soft, .int .i64 seq, .int .i64 size, .int .i64 opn] T)) A n cap h0 h1 h2 T' (0, 0)
  rw [show (w.alloc (.cells #[.int .i64 conv, .int .i64 soft, .int .i64 seq, .int .i64 size, .int .i64 opn] T)).heap.size = w.heap.size + 1 by simp] at hb
  exact ⟨(Lies.new w conv soft seq size opn T (0, 0)).below ((Below.refl _ _).alloc (Nat.le_refl _) _), hb, ((Below.refl _ _).alloc (Nat.le_refl _) _).alloc (by simp) _⟩
theorem GP.below (h : GP w w' conv soft seq size opn A n cap h0 h1 h2) (hb : Below w'.heap.size w' w2) : GP w w2 conv soft seq size opn A n cap h0 h1 h2 :=
  ⟨h.1.below hb, h.2.1.below hb, bthen h.2.2 hb⟩
theorem GP.drew (h : GP w w' conv soft seq size opn A n cap h0 h1 h2) : GP w w'.drew conv soft seq size opn A n cap h0 h1 h2 := ⟨h.1.drew, h.2.1.drew, h.2.2.drew⟩
theorem GP.drewN (h : GP w w' conv soft seq size opn A n cap h0 h1 h2) (q : Nat) : GP w (w'.drewN q) conv soft seq size opn A n cap h0 h1 h2 := ⟨h.1, h.2.1.drewN q, below_draws h.2.2 q⟩
theorem GP.alloc (h : GP w w' conv soft seq size opn A n cap h0 h1 h2) (o : Obj) : GP w (w'.alloc o) conv soft seq size opn A n cap h0 h1 h2 := h.below ((Below.refl _ _).alloc (Nat.le_refl _) o)
theorem Rd.gp {xs : List Value} {A' : Option Addr} (hr : Rd w w.heap.size A' xs) (h : GP w w' conv soft seq size opn A n cap h0 h1 h2) : Rd w' w'.heap.size A' xs := (hr.below h.2.2).more h.2.2.size
end
theorem pelemI : Elem Try.prog 24 3 (.int .i64 0) 1 8 := .of Try.underlying24 (by kernel_rfl) rfl (by omega)

theorem pindex_any (conv soft seq size opn z : Int) (A : Option Addr) (n cap : Nat) (h0 h1 h2 : Int) (w : World) (hm : n ≤ 64) (k0 : 2 ≤ conv) (kz : z < 9223372036854775808) :
    Calls Try.prog 46 #[pgv conv soft seq size opn, ppv A n cap h0 h1 h2, .int .i64 z] w fun e w' =>
      e = .returned (.tuple #[.int .i64 (ixV conv n z), .bool (ixB conv n z)]) ∧ Below w.heap.size w w' := by
  have H0 := Lib.hid (GP.new w conv soft seq size opn A n cap h0 h1 h2 23 27)
  have hd0 : decide (conv < 0) = false := decide_eq_false (by omega)
  by_cases h : conv ≤ z
  · have hd1 : decide (z < conv) = false := decide_eq_false (by omega)
    have hw := IntWalk.i64_in (z - conv) (by omega)
    by_cases h' : z < conv + n
    · have hd2 : decide ((n : Int) ≤ z - conv) = false := decide_eq_false (by omega)
      have HV := Lib.hid (And.intro (ix_yes h h').1 (ix_yes h h').2)
      clear h h' kz
      go_enter Try.func46, Try.ntmps46
      go_wp2
      go_ret2
      rw [HV.out.1, HV.out.2]
      exact ⟨rfl, H0.out.2.2⟩
    · have hd2 : decide ((n : Int) ≤ z - conv) = true := decide_eq_true (by omega)
      have HV := Lib.hid (And.intro (ix_no (show ¬ (conv ≤ z ∧ z < conv + n) by omega)).1 (ix_no (show ¬ (conv ≤ z ∧ z < conv + n) by omega)).2)
      clear h h' kz
      go_enter Try.func46, Try.ntmps46
      go_wp2
      go_ret2
      rw [HV.out.1, HV.out.2]
      exact ⟨rfl, H0.out.2.2⟩
  · have hd1 : decide (z < conv) = true := decide_eq_true (by omega)
    have HV := Lib.hid (And.intro (ix_no (show ¬ (conv ≤ z ∧ z < conv + n) by omega)).1 (ix_no (show ¬ (conv ≤ z ∧ z < conv + n) by omega)).2)
    clear h kz
    go_enter Try.func46, Try.ntmps46
    go_wp2
    go_ret2
    rw [HV.out.1, HV.out.2]
    exact ⟨rfl, H0.out.2.2⟩

theorem idx_none {xs : List Int} {z : Int} (h : ∀ k, k < xs.length → xs[k]? ≠ some z) : hasZ xs z = false := by
  unfold hasZ
  rw [Bool.eq_false_iff]
  intro hc
  obtain ⟨k, hk, e⟩ := List.mem_iff_getElem.1 (List.contains_iff_mem.1 hc)
  exact h k hk (by rw [List.getElem?_eq_getElem hk, e])
theorem idx_some {xs : List Int} {z : Int} {k : Nat} (h : xs[k]? = some z) : hasZ xs z = true := List.contains_iff_mem.2 (List.mem_of_getElem? h)
/-- slices.Index of numbers: -1, or a place where it stands -/
theorem sindex_any (A : Option Addr) (n cap : Nat) (xs : List Int) (z : Int) (w : World) (hm : n ≤ maxLen) (hn : xs.length = n) (B : Nat) (hr : Rd w B A (is xs)) :
    Calls Try.prog 53 #[.slice A n cap, .int .i64 z] w fun e w' => ∃ r : Int, e = .returned (.int .i64 r) ∧ decide (0 ≤ r) = hasZ xs z ∧ w = w' := by
  unfold maxLen at hm
  have HN := Lib.hid hn
  clear hn
  go_enter Try.func53, Try.ntmps53
  go_wp2
  go_loopw [8] (fun i wr => ∃ k : Nat, k ≤ n ∧ i = .int .i64 k ∧ (∀ j, j < k → xs[j]? ≠ some z) ∧ w = wr) (fun i _ => n - (intOf i).toNat)
  case atStart => exact ⟨0, by omega, rfl, fun j hj => absurd hj (by omega), rfl⟩
  case round =>
    obtain ⟨k, hk, rfl, hno, rfl⟩ := hrel
    have HNo := Lib.hid hno
    clear hno
    by_cases hlt : k < n
    · have hx : xs[k]? = some (xs.getD k 0) := by simp [HN.out, hlt]
      obtain ⟨ad, rfl, _, hc⟩ := hr.at (is_get (zs := xs) (k := k) (by rw [HN.out]; omega))
      generalize xs.getD k 0 = x at hx hc
      have HX := Lib.hid hx
      clear hx hr
      by_cases hz : z = x
      · subst hz
        go_wp2
        go_ret
        exact ⟨k, rfl, by rw [idx_some HX.out]; simp, rfl⟩
      · have hq : (z == x) = false := by simpa using hz
        have HZ := Lib.hid hz
        clear hz
        go_wp2
        go_roundw
        case rel => exact ⟨k + 1, by omega, by go_num, fun j hj => by
          by_cases e : j = k
          · subst e
            rw [HX.out]
            intro e
            exact HZ.out (by injection e with e; exact e.symm)
          · exact HNo.out j (by omega), trivial⟩
        case measure => simp [intOf]; omega
    · obtain rfl : n = k := by omega
      go_wp2
      go_ret
      exact ⟨-1, rfl, by rw [idx_none (fun k hk => HNo.out k (by rw [← HN.out]; exact hk))]; rfl, rfl⟩
theorem scontains_any (A : Option Addr) (n cap : Nat) (xs : List Int) (z : Int) (w : World) (hm : n ≤ maxLen) (hn : xs.length = n) (B : Nat) (hr : Rd w B A (is xs)) :
    Calls Try.prog 50 #[.slice A n cap, .int .i64 z] w fun e w' => e = .returned (.bool (hasZ xs z)) ∧ w = w' := by
  have HI := Lib.hid (sindex_any A n cap xs z w hm hn B hr)
  clear hr hn hm
  go_enter Try.func50, Try.ntmps50
  go_wp2_with fail
  refine HI.out.mono ?_
  rintro e w' ⟨r, rfl, hd, rfl⟩
  go_wp2
  go_ret
  exact ⟨rfl, rfl⟩
set_option maxRecDepth 100000 in
theorem pishead_any (A : Option Addr) (n cap : Nat) (h0 h1 h2 z : Int) (w : World) :
    Calls Try.prog 39 #[ppv A n cap h0 h1 h2, .int .i64 z] w fun e w' => e = .returned (.bool (isH h0 h1 h2 z)) ∧ Below w.heap.size w w' := by
  have hL := LiesP.new w A n cap h0 h1 h2 27 (0, 0)
  have hb0 : Below w.heap.size w (w.alloc (.cells #[.slice A n cap, .int .i64 h0, .int .i64 h1, .int .i64 h2] 27)) := (Below.refl _ _).alloc (Nat.le_refl _) _
  go_enter Try.func39, Try.ntmps39
  go_wp2_with fail
  generalize World.alloc _ _ = w1 at hL hb0 ⊢
  refine (scontains_any (some ⟨w.heap.size, 1, none⟩) 3 3 [h0, h1, h2] z w1 (by simp [maxLen]) rfl _ hL.heads).mono ?_
  rintro e w2 ⟨rfl, rfl⟩
  go_wp2
  go_ret
  exact ⟨ret_bool (isH_has ..).symm, hb0⟩
end Go.Proofs.Ytbhcemipjfdemaa

/-
  GeomD
-/
import Derived.Test.YthgjlofebicpiaaMg15
import Derived.Test.YthgjlofebicpiaaMg11
/-
  What Right, Sectors, Num and At of package geom do.
-/
namespace Go.Proofs.Ythgjlofebicpiaa
open Go.RowKit Geom
set_option linter.unusedVariables false

/-- a measure lies in block b -/
def Lies (w : World) (b : Nat) (conv soft seq size opn : Int) : Prop :=
  w.cell? ⟨b, 0, none⟩ = some (.int .i64 conv) ∧ w.cell? ⟨b, 1, none⟩ = some (.int .i64 soft) ∧ w.cell? ⟨b, 2, none⟩ = some (.int .i64 seq) ∧ w.cell? ⟨b, 3, none⟩ = some (.int .i64 size) ∧ w.cell? ⟨b, 4, none⟩ = some (.int .i64 opn) ∧ b < w.heap.size
theorem Lies.new (w : World) (conv soft seq size opn : Int) (T : TypeId) (fr : Nat × Nat) :
    Lies (w.alloc (.cells #[.int .i64 conv, .int .i64 soft, .int .i64 seq, .int .i64 size, .int .i64 opn] T fr)) w.heap.size conv soft seq size opn := by
  have h := rd_new w [.int .i64 conv, .int .i64 soft, .int .i64 seq, .int .i64 size, .int .i64 opn] T fr
  exact ⟨h.cell0 rfl, h.cell0 rfl, h.cell0 rfl, h.cell0 rfl, h.cell0 rfl, by simp⟩
section
variable {w w' : World} {b : Nat} {conv soft seq size opn : Int}
theorem Lies.below (h : Lies w b conv soft seq size opn) (hb : Below w.heap.size w w') : Lies w' b conv soft seq size opn := by
  obtain ⟨h0, h1, h2, h3, h4, hl⟩ := h
  have hk : ∀ o, w'.cell? ⟨b, o, none⟩ = w.cell? ⟨b, o, none⟩ := fun o => hb.cell (p := ⟨b, o, none⟩) hl
  exact ⟨(hk 0).trans h0, (hk 1).trans h1, (hk 2).trans h2, (hk 3).trans h3, (hk 4).trans h4, Nat.lt_of_lt_of_le hl hb.size⟩
theorem Lies.drew (h : Lies w b conv soft seq size opn) : Lies w.drew b conv soft seq size opn := h
end

set_option maxHeartbeats 1000000 in
theorem right_any (conv soft seq size opn : Int) (w : World) (k : seq < 9223372036854775808) :
    Calls Try.prog 63 #[.agg #[.int .i64 conv, .int .i64 soft, .int .i64 seq, .int .i64 size, .int .i64 opn]] w fun e w' => e = .returned (.bool (okB conv soft seq size opn)) ∧ Below w.heap.size w w' := by
  have hbox := Lies.new w conv soft seq size opn 23 (0, 0)
  have hb0 : Below w.heap.size w (w.alloc (.cells #[.int .i64 conv, .int .i64 soft, .int .i64 seq, .int .i64 size, .int .i64 opn] 23)) := (Below.refl _ _).alloc (Nat.le_refl _) _
  by_cases hz : 2 ≤ conv ∧ 6 ≤ seq ∧ conv + seq ≤ 64
  · by_cases hs : 8 ≤ size ∧ size ≤ 256
    · have H : Some conv seq size := ⟨hz.1, hz.2.1, hz.2.2, hs.1, hs.2⟩
      by_cases ho : 3 ≤ opn
      · have HD := Lib.hid (show softB soft seq size = okB conv soft seq size opn by
          unfold softB okB Ok
          rw [Bool.eq_iff_iff]
          simp [hz, hs, ho])
        have HH := Lib.hid H
        have HZ := Lib.hid (zones_yes hz)
        have HS := Lib.hid (size_yes hs)
        clear hz hs H
        go_enter Try.func63, Try.ntmps63
        go_wp2_with fail
        generalize w.alloc _ = w0 at hbox hb0 ⊢
        refine (rightZones_any _ _ _ _ _ _ k).mono ?_
        rintro e w1 ⟨rfl, hb1⟩
        rw [HZ.out]
        have hl1 := hbox.below hb1
        have hbb1 := bthen hb0 hb1
        clear hbox hb0 hb1
        obtain ⟨c0, c1, c2, c3, c4, hlt⟩ := id hl1
        go_wp2_with fail
        refine (rightSize_any _ _ _ _ _ _).mono ?_
        rintro e w2 ⟨rfl, hb2⟩
        rw [HS.out]
        have hl2 := hl1.below hb2
        have hbb2 := bthen hbb1 hb2
        clear c0 c1 c2 c3 c4 hlt hl1 hbb1 hb2
        obtain ⟨c0, c1, c2, c3, c4, hlt⟩ := id hl2
        go_wp2_with fail
        refine (rightSoft_any _ _ _ _ _ _ HH.out).mono ?_
        rintro e w3 ⟨rfl, hb3⟩
        go_wp2
        go_ret
        exact ⟨ret_bool HD.out.symm, bthen hbb2 hb3⟩
      · have HD := Lib.hid (ok_no (conv := conv) (soft := soft) (seq := seq) (size := size) (opn := opn) (fun h => ho h.2.2.2.2.2.1))
        have hd : decide (3 ≤ opn) = false := decide_eq_false ho
        have HZ := Lib.hid (zones_yes hz)
        have HS := Lib.hid (size_yes hs)
        clear hz hs H ho
        go_enter Try.func63, Try.ntmps63
        go_wp2_with fail
        generalize w.alloc _ = w0 at hbox hb0 ⊢
        refine (rightZones_any _ _ _ _ _ _ k).mono ?_
        rintro e w1 ⟨rfl, hb1⟩
        rw [HZ.out]
        have hl1 := hbox.below hb1
        have hbb1 := bthen hb0 hb1
        clear hbox hb0 hb1
        obtain ⟨c0, c1, c2, c3, c4, hlt⟩ := id hl1
        go_wp2_with fail
        refine (rightSize_any _ _ _ _ _ _).mono ?_
        rintro e w2 ⟨rfl, hb2⟩
        rw [HS.out]
        have hl2 := hl1.below hb2
        have hbb2 := bthen hbb1 hb2
        clear c0 c1 c2 c3 c4 hlt hl1 hbb1 hb2
        obtain ⟨c0, c1, c2, c3, c4, hlt⟩ := id hl2
        go_wp2
        go_ret
        exact ⟨ret_bool HD.out, hbb2⟩
    · have HD := Lib.hid (ok_no (conv := conv) (soft := soft) (seq := seq) (size := size) (opn := opn) (fun h => hs ⟨h.2.2.2.1, h.2.2.2.2.1⟩))
      have HZ := Lib.hid (zones_yes hz)
      have HS := Lib.hid (size_no hs)
      clear hz hs
      go_enter Try.func63, Try.ntmps63
      go_wp2_with fail
      generalize w.alloc _ = w0 at hbox hb0 ⊢
      refine (rightZones_any _ _ _ _ _ _ k).mono ?_
      rintro e w1 ⟨rfl, hb1⟩
      rw [HZ.out]
      have hl1 := hbox.below hb1
      have hbb1 := bthen hb0 hb1
      clear hbox hb0 hb1
      obtain ⟨c0, c1, c2, c3, c4, hlt⟩ := id hl1
      go_wp2_with fail
      refine (rightSize_any _ _ _ _ _ _).mono ?_
      rintro e w2 ⟨rfl, hb2⟩
      rw [HS.out]
      have hl2 := hl1.below hb2
      have hbb2 := bthen hbb1 hb2
      clear c0 c1 c2 c3 c4 hlt hl1 hbb1 hb2
      obtain ⟨c0, c1, c2, c3, c4, hlt⟩ := id hl2
      go_wp2
      go_ret
      exact ⟨ret_bool HD.out, hbb2⟩
  · have HD := Lib.hid (ok_no (conv := conv) (soft := soft) (seq := seq) (size := size) (opn := opn) (fun h => hz ⟨h.1, h.2.1, h.2.2.1⟩))
    have HZ := Lib.hid (zones_no hz)
    clear hz
    go_enter Try.func63, Try.ntmps63
    go_wp2_with fail
    generalize w.alloc _ = w0 at hbox hb0 ⊢
    refine (rightZones_any _ _ _ _ _ _ k).mono ?_
    rintro e w1 ⟨rfl, hb1⟩
    rw [HZ.out]
    have hl1 := hbox.below hb1
    have hbb1 := bthen hb0 hb1
    clear hbox hb0 hb1
    obtain ⟨c0, c1, c2, c3, c4, hlt⟩ := id hl1
    go_wp2
    go_ret
    exact ⟨ret_bool HD.out, hbb1⟩

/-- the sectors of a zone -/
def sectors (conv soft seq size zone : Int) : Int := if zone < 0 ∨ conv + seq ≤ zone then 0 else if zone < conv then soft else size

set_option maxHeartbeats 1000000 in
theorem sectors_any (conv soft seq size opn zone : Int) (w : World) (H : Some conv seq size) :
    Calls Try.prog 90 #[.agg #[.int .i64 conv, .int .i64 soft, .int .i64 seq, .int .i64 size, .int .i64 opn], .int .i64 zone] w fun e w' => e = .returned (.int .i64 (sectors conv soft seq size zone)) ∧ Below w.heap.size w w' := by
  have hbox := Lies.new w conv soft seq size opn 23 (0, 0)
  have hb0 : Below w.heap.size w (w.alloc (.cells #[.int .i64 conv, .int .i64 soft, .int .i64 seq, .int .i64 size, .int .i64 opn] 23)) := (Below.refl _ _).alloc (Nat.le_refl _) _
  have HH := Lib.hid H
  by_cases h1 : zone < 0
  · have HD := Lib.hid (show sectors conv soft seq size zone = 0 from if_pos (.inl h1))
    go_enter Try.func90, Try.ntmps90
    go_wp2
    go_ret
    exact ⟨ret_int HD.out, hb0⟩
  · have hd1 : decide (zone < 0) = false := decide_eq_false h1
    obtain ⟨q1, q2, q3, q4, q5⟩ := H
    by_cases h2 : conv + seq ≤ zone
    · have HD := Lib.hid (show sectors conv soft seq size zone = 0 from if_pos (.inr h2))
      go_enter Try.func90, Try.ntmps90
      go_wp2_with fail
      generalize w.alloc _ = w0 at hbox hb0 ⊢
      refine (zones_any _ _ _ _ _ _ HH.out).mono ?_
      rintro e w1 ⟨rfl, hb1⟩
      go_wp2
      go_ret
      exact ⟨ret_int HD.out, bthen hb0 hb1⟩
    · have hd2 : decide (conv + seq ≤ zone) = false := decide_eq_false h2
      have hd : ¬ (zone < 0 ∨ conv + seq ≤ zone) := by omega
      by_cases h3 : zone < conv
      · have HD := Lib.hid (show sectors conv soft seq size zone = soft from (if_neg hd).trans (if_pos h3))
        clear hd
        go_enter Try.func90, Try.ntmps90
        go_wp2_with fail
        generalize w.alloc _ = w0 at hbox hb0 ⊢
        refine (zones_any _ _ _ _ _ _ HH.out).mono ?_
        rintro e w1 ⟨rfl, hb1⟩
        obtain ⟨c0, c1, c2, c3, c4, hlt⟩ := hbox.below hb1
        go_wp2
        go_ret
        exact ⟨ret_int HD.out, bthen hb0 hb1⟩
      · have HD := Lib.hid (show sectors conv soft seq size zone = size from (if_neg hd).trans (if_neg h3))
        clear hd
        go_enter Try.func90, Try.ntmps90
        go_wp2_with fail
        generalize w.alloc _ = w0 at hbox hb0 ⊢
        refine (zones_any _ _ _ _ _ _ HH.out).mono ?_
        rintro e w1 ⟨rfl, hb1⟩
        obtain ⟨c0, c1, c2, c3, c4, hlt⟩ := hbox.below hb1
        go_wp2
        go_ret
        exact ⟨ret_int HD.out, bthen hb0 hb1⟩

/-- a place lies in block b -/
def LiesAt (w : World) (b : Nat) (zone off : Int) : Prop := w.cell? ⟨b, 0, none⟩ = some (.int .i64 zone) ∧ w.cell? ⟨b, 1, none⟩ = some (.int .i64 off) ∧ b < w.heap.size
theorem LiesAt.new (w : World) (zone off : Int) (T : TypeId) (fr : Nat × Nat) : LiesAt (w.alloc (.cells #[.int .i64 zone, .int .i64 off] T fr)) w.heap.size zone off := by
  have h := rd_new w [.int .i64 zone, .int .i64 off] T fr
  exact ⟨h.cell0 rfl, h.cell0 rfl, by simp⟩
section
variable {w w' : World} {b : Nat} {zone off : Int}
theorem LiesAt.below (h : LiesAt w b zone off) (hb : Below w.heap.size w w') : LiesAt w' b zone off := by
  obtain ⟨h0, h1, hl⟩ := h
  have hk : ∀ o, w'.cell? ⟨b, o, none⟩ = w.cell? ⟨b, o, none⟩ := fun o => hb.cell (p := ⟨b, o, none⟩) hl
  exact ⟨(hk 0).trans h0, (hk 1).trans h1, Nat.lt_of_lt_of_le hl hb.size⟩
end
theorem Lies.alloc {w : World} {b : Nat} {conv soft seq size opn : Int} (h : Lies w b conv soft seq size opn) (o : Obj) : Lies (w.alloc o) b conv soft seq size opn :=
  h.below ((Below.refl _ _).alloc (Nat.le_refl _) _)

/-- both lie in w', behind w's blocks -/
@[reducible] def Two (w w' : World) (conv soft seq size opn zone off : Int) : Prop :=
  w'.cell? ⟨w.heap.size, 0, none⟩ = some (.int .i64 conv) ∧ w'.cell? ⟨w.heap.size, 1, none⟩ = some (.int .i64 soft) ∧ w'.cell? ⟨w.heap.size, 2, none⟩ = some (.int .i64 seq) ∧ w'.cell? ⟨w.heap.size, 3, none⟩ = some (.int .i64 size) ∧ w'.cell? ⟨w.heap.size, 4, none⟩ = some (.int .i64 opn) ∧ w'.cell? ⟨w.heap.size + 1, 0, none⟩ = some (.int .i64 zone) ∧ w'.cell? ⟨w.heap.size + 1, 1, none⟩ = some (.int .i64 off) ∧ w.heap.size + 1 < w'.heap.size ∧ Below w.heap.size w w'
theorem Two.new (w : World) (conv soft seq size opn zone off : Int) (T T' : TypeId) :
    Two w ((w.alloc (.cells #[.int .i64 conv, .int .i64 soft, .int .i64 seq, .int .i64 size, .int .i64 opn] T)).alloc (.cells #[.int .i64 zone, .int .i64 off] T')) conv soft seq size opn zone off := by
  obtain ⟨h0, h1, h2, h3, h4, _⟩ := (Lies.new w conv soft seq size opn T (0, 0)).alloc (.cells #[.int .i64 zone, .int .i64 off] T')
  obtain ⟨g0, g1, _⟩ := LiesAt.new (w.alloc (.cells #[.int .i64 conv, .int .i64 soft, .int .i64 seq, .int .i64 size, .int .i64 opn] T)) zone off T' (0, 0)
  have hsz : (w.alloc (.cells #[.int .i64 conv, .int .i64 soft, .int .i64 seq, .int .i64 size, .int .i64 opn] T)).heap.size = w.heap.size + 1 := by simp
  rw [hsz] at g0 g1
  exact ⟨h0, h1, h2, h3, h4, g0, g1, by simp, ((Below.refl _ _).alloc (Nat.le_refl _) _).alloc (by simp) _⟩
theorem Two.below {w w' w2 : World} {conv soft seq size opn zone off : Int} (h : Two w w' conv soft seq size opn zone off) (hb : Below w'.heap.size w' w2) : Two w w2 conv soft seq size opn zone off := by
  obtain ⟨h0, h1, h2, h3, h4, h5, h6, h7, h8⟩ := h
  have hk : ∀ o, w2.cell? ⟨w.heap.size, o, none⟩ = w'.cell? ⟨w.heap.size, o, none⟩ := fun o => hb.cell (p := ⟨w.heap.size, o, none⟩) (by show w.heap.size < _; omega)
  have hj : ∀ o, w2.cell? ⟨w.heap.size + 1, o, none⟩ = w'.cell? ⟨w.heap.size + 1, o, none⟩ := fun o => hb.cell (p := ⟨w.heap.size + 1, o, none⟩) (by show w.heap.size + 1 < _; omega)
  exact ⟨(hk 0).trans h0, (hk 1).trans h1, (hk 2).trans h2, (hk 3).trans h3, (hk 4).trans h4, (hj 0).trans h5, (hj 1).trans h6, Nat.lt_of_lt_of_le h7 hb.size, h8.trans (hb.mono h8.size)⟩
theorem Two.drew {w w' : World} {conv soft seq size opn zone off : Int} (h : Two w w' conv soft seq size opn zone off) : Two w w'.drew conv soft seq size opn zone off :=
  ⟨h.1, h.2.1, h.2.2.1, h.2.2.2.1, h.2.2.2.2.1, h.2.2.2.2.2.1, h.2.2.2.2.2.2.1, h.2.2.2.2.2.2.2.1, h.2.2.2.2.2.2.2.2.drew⟩

set_option maxHeartbeats 2000000 in
theorem num_any (conv soft seq size opn zone off : Int) (w : World) (H : Some conv seq size) :
    Calls Try.prog 49 #[.agg #[.int .i64 conv, .int .i64 soft, .int .i64 seq, .int .i64 size, .int .i64 opn], .agg #[.int .i64 zone, .int .i64 off]] w fun e w' => e = .returned (.int .i64 (num conv seq size zone off)) ∧ Below w.heap.size w w' := by
  have HH := Lib.hid H
  have hp := seats_bd H
  obtain ⟨q1, q2, q3, q4, q5⟩ := H
  have hq0 := IntWalk.i64_in (conv + seq) (by omega)
  have h0 := Two.new w conv soft seq size opn zone off 23 68
  by_cases h1 : zone < conv
  · have HD := Lib.hid (show num conv seq size zone off = 0 from if_neg (fun h => by have := h.1; omega))
    have hb0 := h0.2.2.2.2.2.2.2.2
    clear h0
    go_enter Try.func49, Try.ntmps49
    go_wp2
    go_quiet (fail)
    go_wp2
    go_ret
    exact ⟨ret_int HD.out, below_draws hb0 _⟩
  · have hd1 : decide (zone < conv) = false := decide_eq_false h1
    by_cases h2 : conv + seq ≤ zone
    · have HD := Lib.hid (show num conv seq size zone off = 0 from if_neg (fun h => by have := h.2.1; omega))
      have H0 := Lib.hid h0.drew
      clear h0
      go_enter Try.func49, Try.ntmps49
      go_wp2
      refine wp_region_class (fun w' => Two w w' conv soft seq size opn zone off) (by kernel_rfl) (by kernel_rfl) H0.out ?_
      intro X hX f hf hg
      have c0 := fun x => (hf x).1
      have c1 := fun x => (hf x).2.1
      have c2 := fun x => (hf x).2.2.1
      have c3 := fun x => (hf x).2.2.2.1
      have c4 := fun x => (hf x).2.2.2.2.1
      have d0 := fun x => (hf x).2.2.2.2.2.1
      have d1 := fun x => (hf x).2.2.2.2.2.2.1
      have Hf := Lib.hid hf
      have Hg := Lib.hid hg
      clear hf hg H0
      repeat (go_big_quiet_step (exact calls_class (zones_any _ _ _ _ _ _ HH.out) (fun _ hb => Hg.out _ ((Hf.out _).below hb))))
      refine wpQuiet_nil ?_
      rintro _ ⟨x, rfl⟩
      have hbb := (Hf.out x).2.2.2.2.2.2.2.2
      go_wp2
      go_ret
      exact ⟨ret_int HD.out, hbb⟩
    · have hd2 : decide (conv + seq ≤ zone) = false := decide_eq_false h2
      by_cases h3 : off < 0
      · have HD := Lib.hid (show num conv seq size zone off = 0 from if_neg (fun h => by have := h.2.2.1; omega))
        have H0 := Lib.hid h0.drew
        clear h0
        go_enter Try.func49, Try.ntmps49
        go_wp2
        refine wp_region_class (fun w' => Two w w' conv soft seq size opn zone off) (by kernel_rfl) (by kernel_rfl) H0.out ?_
        intro X hX f hf hg
        have c0 := fun x => (hf x).1
        have c1 := fun x => (hf x).2.1
        have c2 := fun x => (hf x).2.2.1
        have c3 := fun x => (hf x).2.2.2.1
        have c4 := fun x => (hf x).2.2.2.2.1
        have d0 := fun x => (hf x).2.2.2.2.2.1
        have d1 := fun x => (hf x).2.2.2.2.2.2.1
        have Hf := Lib.hid hf
        have Hg := Lib.hid hg
        clear hf hg H0
        repeat (go_big_quiet_step (exact calls_class (zones_any _ _ _ _ _ _ HH.out) (fun _ hb => Hg.out _ ((Hf.out _).below hb))))
        refine wpQuiet_nil ?_
        rintro _ ⟨x, rfl⟩
        have hbb := (Hf.out x).2.2.2.2.2.2.2.2
        go_wp2
        go_ret
        exact ⟨ret_int HD.out, hbb⟩
      · have hd3 : decide (off < 0) = false := decide_eq_false h3
        by_cases h4 : size ≤ off
        · have HD := Lib.hid (show num conv seq size zone off = 0 from if_neg (fun h => by have := h.2.2.2; omega))
          have H0 := Lib.hid h0.drew
          clear h0
          go_enter Try.func49, Try.ntmps49
          go_wp2
          refine wp_region_class (fun w' => Two w w' conv soft seq size opn zone off) (by kernel_rfl) (by kernel_rfl) H0.out ?_
          intro X hX f hf hg
          have c0 := fun x => (hf x).1
          have c1 := fun x => (hf x).2.1
          have c2 := fun x => (hf x).2.2.1
          have c3 := fun x => (hf x).2.2.2.1
          have c4 := fun x => (hf x).2.2.2.2.1
          have d0 := fun x => (hf x).2.2.2.2.2.1
          have d1 := fun x => (hf x).2.2.2.2.2.2.1
          have Hf := Lib.hid hf
          have Hg := Lib.hid hg
          clear hf hg H0
          repeat (go_big_quiet_step (exact calls_class (zones_any _ _ _ _ _ _ HH.out) (fun _ hb => Hg.out _ ((Hf.out _).below hb))))
          refine wpQuiet_nil ?_
          rintro _ ⟨x, rfl⟩
          have hbb := (Hf.out x).2.2.2.2.2.2.2.2
          go_wp2
          go_ret
          exact ⟨ret_int HD.out, hbb⟩
        · have hd4 : decide (size ≤ off) = false := decide_eq_false h4
          have hs : Seat conv seq size zone off := ⟨by omega, by omega, by omega, by omega⟩
          obtain ⟨b1, b2⟩ := num_bd hs
          have b3 : 0 ≤ (zone - conv) * size := Int.mul_nonneg (by omega) (by omega)
          have hs := Lib.hid hs
          have HD := Lib.hid (show num conv seq size zone off = (zone - conv) * size + off + 1 from if_pos hs.out)
          have H0 := Lib.hid h0.drew
          clear h0
          go_enter Try.func49, Try.ntmps49
          go_wp2
          refine wp_region_class (fun w' => Two w w' conv soft seq size opn zone off) (by kernel_rfl) (by kernel_rfl) H0.out ?_
          intro X hX f hf hg
          have c0 := fun x => (hf x).1
          have c1 := fun x => (hf x).2.1
          have c2 := fun x => (hf x).2.2.1
          have c3 := fun x => (hf x).2.2.2.1
          have c4 := fun x => (hf x).2.2.2.2.1
          have d0 := fun x => (hf x).2.2.2.2.2.1
          have d1 := fun x => (hf x).2.2.2.2.2.2.1
          have Hf := Lib.hid hf
          have Hg := Lib.hid hg
          clear hf hg H0
          repeat (go_big_quiet_step (exact calls_class (zones_any _ _ _ _ _ _ HH.out) (fun _ hb => Hg.out _ ((Hf.out _).below hb))))
          refine wpQuiet_nil ?_
          rintro _ ⟨x, rfl⟩
          have hbb := (Hf.out x).2.2.2.2.2.2.2.2
          go_wp2
          go_ret
          exact ⟨ret_int HD.out, hbb⟩
end Go.Proofs.Ythgjlofebicpiaa

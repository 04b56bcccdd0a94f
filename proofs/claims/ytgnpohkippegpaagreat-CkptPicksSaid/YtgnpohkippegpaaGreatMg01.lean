/-
  GeomD ZoneM ZoneN
-/
import Derived.Test.YtgnpohkippegpaaGreatMg00
import Derived.Laws.MakeOwn
/-
  What Right, Sectors, Num and At of package geom do.
-/
namespace Go.Proofs.YtgnpohkippegpaaGreat
open Go.RowKit Geom
set_option linter.unusedVariables false

/-- a measure lies in block b -/
def Lies (w : World) (b : Nat) (conv soft seq size opn : Int) : Prop :=
  w.cell? ⟨b, 0, none⟩ = some (.int .i64 conv) ∧ w.cell? ⟨b, 1, none⟩ = some (.int .i64 soft) ∧ w.cell? ⟨b, 2, none⟩ = some (.int .i64 seq) ∧ w.cell? ⟨b, 3, none⟩ = some (.int .i64 size) ∧ w.cell? ⟨b, 4, none⟩ = some (.int .i64 opn) ∧ b < w.heap.size
theorem Lies.new (w : World) (conv soft seq size opn : Int) (T : TypeId) (fr : Nat × Nat) :
    Lies (w.alloc (.cells #[.int .i64 conv, .int .i64 soft, .int .i64 seq, .int .i64 size, .int .i64 opn] T fr)) w.heap.size conv soft seq size opn := by
  have h := rd_new w [.int .i64 conv, .int .i64 soft, .int .i64 seq, .int .i64 size, .int .i64 opn] T fr
  exact ⟨h.cell0 rfl, h.cell0 rfl, h.cell0 rfl, h.cell0 rfl, h.cell0 rfl, by simp⟩
section
variable {w w' : World} {b : Nat} {conv soft seq size opn : Int}
theorem Lies.below (h : Lies w b conv soft seq size opn) (hb : Below w.heap.size w w') : Lies w' b conv soft seq size opn := by
  obtain ⟨h0, h1, h2, h3, h4, hl⟩ := h
  have hk : ∀ o, w'.cell? ⟨b, o, none⟩ = w.cell? ⟨b, o, none⟩ := fun o => hb.cell (p := ⟨b, o, none⟩) hl
  exact ⟨(hk 0).trans h0, (hk 1).trans h1, (hk 2).trans h2, (hk 3).trans h3, (hk 4).trans h4, Nat.lt_of_lt_of_le hl hb.size⟩
theorem Lies.drew (h : Lies w b conv soft seq size opn) : Lies w.drew b conv soft seq size opn := h
end

set_option maxHeartbeats 1000000 in
theorem right_any (conv soft seq size opn : Int) (w : World) (k : seq < 9223372036854775808) :
    Calls Tryz.prog 42 #[.agg #[.int .i64 conv, .int .i64 soft, .int .i64 seq, .int .i64 size, .int .i64 opn]] w fun e w' => e = .returned (.bool (okB conv soft seq size opn)) ∧ Below w.heap.size w w' := by
  have hbox := Lies.new w conv soft seq size opn 23 (0, 0)
  have hb0 : Below w.heap.size w (w.alloc (.cells #[.int .i64 conv, .int .i64 soft, .int .i64 seq, .int .i64 size, .int .i64 opn] 23)) := (Below.refl _ _).alloc (Nat.le_refl _) _
  by_cases hz : 2 ≤ conv ∧ 6 ≤ seq ∧ conv + seq ≤ 64
  · by_cases hs : 8 ≤ size ∧ size ≤ 256
    · have H : Some conv seq size := ⟨hz.1, hz.2.1, hz.2.2, hs.1, hs.2⟩
      by_cases ho : 3 ≤ opn
      · have HD := Lib.hid (show softB soft seq size = okB conv soft seq size opn by
          unfold softB okB Ok
          rw [Bool.eq_iff_iff]
          simp [hz, hs, ho])
        have HH := Lib.hid H
        have HZ := Lib.hid (zones_yes hz)
        have HS := Lib.hid (size_yes hs)
        clear hz hs H
        go_enter Tryz.func42, Tryz.ntmps42
        go_wp2_with fail
        generalize w.alloc _ = w0 at hbox hb0 ⊢
        refine (rightZones_any _ _ _ _ _ _ k).mono ?_
        rintro e w1 ⟨rfl, hb1⟩
        rw [HZ.out]
        have hl1 := hbox.below hb1
        have hbb1 := bthen hb0 hb1
        clear hbox hb0 hb1
        obtain ⟨c0, c1, c2, c3, c4, hlt⟩ := id hl1
        go_wp2_with fail
        refine (rightSize_any _ _ _ _ _ _).mono ?_
        rintro e w2 ⟨rfl, hb2⟩
        rw [HS.out]
        have hl2 := hl1.below hb2
        have hbb2 := bthen hbb1 hb2
        clear c0 c1 c2 c3 c4 hlt hl1 hbb1 hb2
        obtain ⟨c0, c1, c2, c3, c4, hlt⟩ := id hl2
        go_wp2_with fail
        refine (rightSoft_any _ _ _ _ _ _ HH.out).mono ?_
        rintro e w3 ⟨rfl, hb3⟩
        go_wp2
        go_ret
        exact ⟨ret_bool HD.out.symm, bthen hbb2 hb3⟩
      · have HD := Lib.hid (ok_no (conv := conv) (soft := soft) (seq := seq) (size := size) (opn := opn) (fun h => ho h.2.2.2.2.2.1))
        have hd : decide (3 ≤ opn) = false := decide_eq_false ho
        have HZ := Lib.hid (zones_yes hz)
        have HS := Lib.hid (size_yes hs)
        clear hz hs H ho
        go_enter Tryz.func42, Tryz.ntmps42
        go_wp2_with fail
        generalize w.alloc _ = w0 at hbox hb0 ⊢
        refine (rightZones_any _ _ _ _ _ _ k).mono ?_
        rintro e w1 ⟨rfl, hb1⟩
        rw [HZ.out]
        have hl1 := hbox.below hb1
        have hbb1 := bthen hb0 hb1
        clear hbox hb0 hb1
        obtain ⟨c0, c1, c2, c3, c4, hlt⟩ := id hl1
        go_wp2_with fail
        refine (rightSize_any _ _ _ _ _ _).mono ?_
        rintro e w2 ⟨rfl, hb2⟩
        rw [HS.out]
        have hl2 := hl1.below hb2
        have hbb2 := bthen hbb1 hb2
        clear c0 c1 c2 c3 c4 hlt hl1 hbb1 hb2
        obtain ⟨c0, c1, c2, c3, c4, hlt⟩ := id hl2
        go_wp2
        go_ret
        exact ⟨ret_bool HD.out, hbb2⟩
    · have HD := Lib.hid (ok_no (conv := conv) (soft := soft) (seq := seq) (size := size) (opn := opn) (fun h => hs ⟨h.2.2.2.1, h.2.2.2.2.1⟩))
      have HZ := Lib.hid (zones_yes hz)
      have HS := Lib.hid (size_no hs)
      clear hz hs
      go_enter Tryz.func42, Tryz.ntmps42
      go_wp2_with fail
      generalize w.alloc _ = w0 at hbox hb0 ⊢
      refine (rightZones_any _ _ _ _ _ _ k).mono ?_
      rintro e w1 ⟨rfl, hb1⟩
      rw [HZ.out]
      have hl1 := hbox.below hb1
      have hbb1 := bthen hb0 hb1
      clear hbox hb0 hb1
      obtain ⟨c0, c1, c2, c3, c4, hlt⟩ := id hl1
      go_wp2_with fail
      refine (rightSize_any _ _ _ _ _ _).mono ?_
      rintro e w2 ⟨rfl, hb2⟩
      rw [HS.out]
      have hl2 := hl1.below hb2
      have hbb2 := bthen hbb1 hb2
      clear c0 c1 c2 c3 c4 hlt hl1 hbb1 hb2
      obtain ⟨c0, c1, c2, c3, c4, hlt⟩ := id hl2
      go_wp2
      go_ret
      exact ⟨ret_bool HD.out, hbb2⟩
  · have HD := Lib.hid (ok_no (conv := conv) (soft := soft) (seq := seq) (size := size) (opn := opn) (fun h => hz ⟨h.1, h.2.1, h.2.2.1⟩))
    have HZ := Lib.hid (zones_no hz)
    clear hz
    go_enter Tryz.func42, Tryz.ntmps42
    go_wp2_with fail
    generalize w.alloc _ = w0 at hbox hb0 ⊢
    refine (rightZones_any _ _ _ _ _ _ k).mono ?_
    rintro e w1 ⟨rfl, hb1⟩
    rw [HZ.out]
    have hl1 := hbox.below hb1
    have hbb1 := bthen hb0 hb1
    clear hbox hb0 hb1
    obtain ⟨c0, c1, c2, c3, c4, hlt⟩ := id hl1
    go_wp2
    go_ret
    exact ⟨ret_bool HD.out, hbb1⟩

/-- the sectors of a zone -/
def sectors (conv soft seq size zone : Int) : Int := if zone < 0 ∨ conv + seq ≤ zone then 0 else if zone < conv then soft else size

set_option maxHeartbeats 1000000 in
theorem sectors_any (conv soft seq size opn zone : Int) (w : World) (H : Some conv seq size) :
    Calls Tryz.prog 82 #[.agg #[.int .i64 conv, .int .i64 soft, .int .i64 seq, .int .i64 size, .int .i64 opn], .int .i64 zone] w fun e w' => e = .returned (.int .i64 (sectors conv soft seq size zone)) ∧ Below w.heap.size w w' := by
  have hbox := Lies.new w conv soft seq size opn 23 (0, 0)
  have hb0 : Below w.heap.size w (w.alloc (.cells #[.int .i64 conv, .int .i64 soft, .int .i64 seq, .int .i64 size, .int .i64 opn] 23)) := (Below.refl _ _).alloc (Nat.le_refl _) _
  have HH := Lib.hid H
  by_cases h1 : zone < 0
  · have HD := Lib.hid (show sectors conv soft seq size zone = 0 from if_pos (.inl h1))
    go_enter Tryz.func82, Tryz.ntmps82
    go_wp2
    go_ret
    exact ⟨ret_int HD.out, hb0⟩
  · have hd1 : decide (zone < 0) = false := decide_eq_false h1
    obtain ⟨q1, q2, q3, q4, q5⟩ := H
    by_cases h2 : conv + seq ≤ zone
    · have HD := Lib.hid (show sectors conv soft seq size zone = 0 from if_pos (.inr h2))
      go_enter Tryz.func82, Tryz.ntmps82
      go_wp2_with fail
      generalize w.alloc _ = w0 at hbox hb0 ⊢
      refine (zones_any _ _ _ _ _ _ HH.out).mono ?_
      rintro e w1 ⟨rfl, hb1⟩
      go_wp2
      go_ret
      exact ⟨ret_int HD.out, bthen hb0 hb1⟩
    · have hd2 : decide (conv + seq ≤ zone) = false := decide_eq_false h2
      have hd : ¬ (zone < 0 ∨ conv + seq ≤ zone) := by omega
      by_cases h3 : zone < conv
      · have HD := Lib.hid (show sectors conv soft seq size zone = soft from (if_neg hd).trans (if_pos h3))
        clear hd
        go_enter Tryz.func82, Tryz.ntmps82
        go_wp2_with fail
        generalize w.alloc _ = w0 at hbox hb0 ⊢
        refine (zones_any _ _ _ _ _ _ HH.out).mono ?_
        rintro e w1 ⟨rfl, hb1⟩
        obtain ⟨c0, c1, c2, c3, c4, hlt⟩ := hbox.below hb1
        go_wp2
        go_ret
        exact ⟨ret_int HD.out, bthen hb0 hb1⟩
      · have HD := Lib.hid (show sectors conv soft seq size zone = size from (if_neg hd).trans (if_neg h3))
        clear hd
        go_enter Tryz.func82, Tryz.ntmps82
        go_wp2_with fail
        generalize w.alloc _ = w0 at hbox hb0 ⊢
        refine (zones_any _ _ _ _ _ _ HH.out).mono ?_
        rintro e w1 ⟨rfl, hb1⟩
        obtain ⟨c0, c1, c2, c3, c4, hlt⟩ := hbox.below hb1
        go_wp2
        go_ret
        exact ⟨ret_int HD.out, bthen hb0 hb1⟩

/-- a place lies in block b -/
def LiesAt (w : World) (b : Nat) (zone off : Int) : Prop := w.cell? ⟨b, 0, none⟩ = some (.int .i64 zone) ∧ w.cell? ⟨b, 1, none⟩ = some (.int .i64 off) ∧ b < w.heap.size
theorem LiesAt.new (w : World) (zone off : Int) (T : TypeId) (fr : Nat × Nat) : LiesAt (w.alloc (.cells #[.int .i64 zone, .int .i64 off] T fr)) w.heap.size zone off := by
  have h := rd_new w [.int .i64 zone, .int .i64 off] T fr
  exact ⟨h.cell0 rfl, h.cell0 rfl, by simp⟩
section
variable {w w' : World} {b : Nat} {zone off : Int}
theorem LiesAt.below (h : LiesAt w b zone off) (hb : Below w.heap.size w w') : LiesAt w' b zone off := by
  obtain ⟨h0, h1, hl⟩ := h
  have hk : ∀ o, w'.cell? ⟨b, o, none⟩ = w.cell? ⟨b, o, none⟩ := fun o => hb.cell (p := ⟨b, o, none⟩) hl
  exact ⟨(hk 0).trans h0, (hk 1).trans h1, Nat.lt_of_lt_of_le hl hb.size⟩
end
theorem Lies.alloc {w : World} {b : Nat} {conv soft seq size opn : Int} (h : Lies w b conv soft seq size opn) (o : Obj) : Lies (w.alloc o) b conv soft seq size opn :=
  h.below ((Below.refl _ _).alloc (Nat.le_refl _) _)

/-- both lie in w', behind w's blocks -/
@[reducible] def Two (w w' : World) (conv soft seq size opn zone off : Int) : Prop :=
  w'.cell? ⟨w.heap.size, 0, none⟩ = some (.int .i64 conv) ∧ w'.cell? ⟨w.heap.size, 1, none⟩ = some (.int .i64 soft) ∧ w'.cell? ⟨w.heap.size, 2, none⟩ = some (.int .i64 seq) ∧ w'.cell? ⟨w.heap.size, 3, none⟩ = some (.int .i64 size) ∧ w'.cell? ⟨w.heap.size, 4, none⟩ = some (.int .i64 opn) ∧ w'.cell? ⟨w.heap.size + 1, 0, none⟩ = some (.int .i64 zone) ∧ w'.cell? ⟨w.heap.size + 1, 1, none⟩ = some (.int .i64 off) ∧ w.heap.size + 1 < w'.heap.size ∧ Below w.heap.size w w'
theorem Two.new (w : World) (conv soft seq size opn zone off : Int) (T T' : TypeId) :
    Two w ((w.alloc (.cells #[.int .i64 conv, .int .i64 soft, .int .i64 seq, .int .i64 size, .int .i64 opn] T)).alloc (.cells #[.int .i64 zone, .int .i64 off] T')) conv soft seq size opn zone off := by
  obtain ⟨h0, h1, h2, h3, h4, _⟩ := (Lies.new w conv soft seq size opn T (0, 0)).alloc (.cells #[.int .i64 zone, .int .i64 off] T')
  obtain ⟨g0, g1, _⟩ := LiesAt.new (w.alloc (.cells #[.int .i64 conv, .int .i64 soft, .int .i64 seq, .int .i64 size, .int .i64 opn] T)) zone off T' (0, 0)
  have hsz : (w.alloc (.cells #[.int .i64 conv, .int .i64 soft, .int .i64 seq, .int .i64 size, .int .i64 opn] T)).heap.size = w.heap.size + 1 := by simp
  rw [hsz] at g0 g1
  exact ⟨h0, h1, h2, h3, h4, g0, g1, by simp, ((Below.refl _ _).alloc (Nat.le_refl _) _).alloc (by simp) _⟩
theorem Two.below {w w' w2 : World} {conv soft seq size opn zone off : Int} (h : Two w w' conv soft seq size opn zone off) (hb : Below w'.heap.size w' w2) : Two w w2 conv soft seq size opn zone off := by
  obtain ⟨h0, h1, h2, h3, h4, h5, h6, h7, h8⟩ := h
  have hk : ∀ o, w2.cell? ⟨w.heap.size, o, none⟩ = w'.cell? ⟨w.heap.size, o, none⟩ := fun o => hb.cell (p := ⟨w.heap.size, o, none⟩) (by show w.heap.size < _; omega)
  have hj : ∀ o, w2.cell? ⟨w.heap.size + 1, o, none⟩ = w'.cell? ⟨w.heap.size + 1, o, none⟩ := fun o => hb.cell (p := ⟨w.heap.size + 1, o, none⟩) (by show w.heap.size + 1 < _; omega)
  exact ⟨(hk 0).trans h0, (hk 1).trans h1, (hk 2).trans h2, (hk 3).trans h3, (hk 4).trans h4, (hj 0).trans h5, (hj 1).trans h6, Nat.lt_of_lt_of_le h7 hb.size, h8.trans (hb.mono h8.size)⟩
theorem Two.drew {w w' : World} {conv soft seq size opn zone off : Int} (h : Two w w' conv soft seq size opn zone off) : Two w w'.drew conv soft seq size opn zone off :=
  ⟨h.1, h.2.1, h.2.2.1, h.2.2.2.1, h.2.2.2.2.1, h.2.2.2.2.2.1, h.2.2.2.2.2.2.1, h.2.2.2.2.2.2.2.1, h.2.2.2.2.2.2.2.2.drew⟩

end Go.Proofs.YtgnpohkippegpaaGreat

/-
  The mathematics of package zone: what becomes of one zone, of all zones; which are right. No program.
-/
namespace Go.Proofs.YtgnpohkippegpaaGreat.Zone
open Geom

/-- a zone: its state, its pointer -/
abbrev Z := Int × Int
/-- how many are Open -/
def cnt (L : List Z) : Nat := L.countP (fun z => z.1 == 1)
theorem cnt_le (L : List Z) : cnt L ≤ L.length := List.countP_le_length
theorem cnt_nil : cnt [] = 0 := rfl
theorem cnt_append (L M : List Z) : cnt (L ++ M) = cnt L + cnt M := List.countP_append
theorem cnt_one (z : Z) : cnt [z] = if z.1 = 1 then 1 else 0 := by
  unfold cnt
  by_cases h : z.1 = 1 <;> simp [h]
theorem take_succ {α : Type} {L : List α} {k : Nat} {z : α} (h : L[k]? = some z) : L.take (k + 1) = L.take k ++ [z] := by
  rw [List.take_add_one, h]
  rfl
theorem cnt_take {L : List Z} {k : Nat} {z : Z} (h : L[k]? = some z) : cnt (L.take (k + 1)) = cnt (L.take k) + (if z.1 = 1 then 1 else 0) := by
  rw [take_succ h, cnt_append, cnt_one]
theorem cnt_take_le (L : List Z) (k : Nat) : cnt (L.take k) ≤ k := Nat.le_trans (cnt_le _) (by simp; omega)
theorem getD_of {L : List Z} {k : Nat} {d : Z} (h : k < L.length) : L[k]? = some (L.getD k d) := by simp [h]

/-- an Open zone without power, or closed -/
def rest (z : Z) : Z := if z.2 = 0 then (0, 0) else (2, z.2)
def pow (z : Z) : Z := if z.1 = 1 then rest z else z
def openZ (room : Bool) (z : Z) : Z × Int := if z.1 = 4 ∨ z.1 = 3 then (z, 3) else if z.1 = 1 then (z, 0) else if room = true then ((1, z.2), 0) else (z, 5)
def resetZ (z : Z) : Z × Int := if z.1 = 4 then (z, 3) else ((0, 0), 0)
def finishZ (z : Z) : Z × Int := if z.1 = 4 ∨ z.1 = 3 then (z, 3) else ((3, z.2), 0)
def closeZ (z : Z) : Z × Int := if z.1 = 1 then (rest z, 0) else (z, 3)
def writeZ (off size : Int) (room : Bool) (z : Z) : Z × Int :=
  if z.1 = 4 then (z, 0) else if z.1 = 3 then (z, 3) else if off ≠ z.2 then (z, 4) else if z.1 = 1 ∨ room = true then ((if z.2 + 1 = size then 3 else 1, z.2 + 1), 0) else (z, 5)
/-- what is asked of one zone: 0 Write, 2 Reset, 3 Finish, 4 Open, else Close -/
def turn (k off size : Int) (room : Bool) (z : Z) : Z × Int :=
  if k = 0 then writeZ off size room z else if k = 2 then resetZ z else if k = 3 then finishZ z else if k = 4 then openZ room z else closeZ z
/-- is there such a zone? -/
def hasB (conv seq zone : Int) : Bool := decide (0 ≤ zone ∧ zone < conv + seq)
/-- is there such a sector? -/
def inB (conv soft seq size zone off : Int) : Bool := decide (0 ≤ off ∧ off < sectors conv soft seq size zone)
/-- the zone that a number names -/
def zat (L : List Z) (zone : Int) : Z := L.getD zone.toNat (0, 0)
/-- all of what may be asked; 1 Read, 6 Power -/
def act (conv soft seq size opn : Int) (L : List Z) (k zone off : Int) : List Z × Int :=
  if k = 6 then (L.map pow, 0)
  else if hasB conv seq zone = false then (L, 6)
  else if (k = 0 ∨ k = 1) ∧ inB conv soft seq size zone off = false then (L, 6)
  else if k = 1 then (L, if (zat L zone).1 ≠ 4 ∧ (zat L zone).2 ≤ off then 4 else 0)
  else (L.set zone.toNat (turn k off size (decide ((cnt L : Int) < opn)) (zat L zone)).1, (turn k off size (decide ((cnt L : Int) < opn)) (zat L zone)).2)

/-- a zone at a place is right -/
def fitZ (conv size : Int) (i : Nat) (z : Z) : Prop :=
  ((i : Int) < conv ∧ z.1 = 4 ∧ z.2 = 0) ∨ (conv ≤ (i : Int) ∧ ((z.1 = 0 ∧ z.2 = 0) ∨ (z.1 = 1 ∧ 0 ≤ z.2 ∧ z.2 < size) ∨ (z.1 = 2 ∧ 0 < z.2 ∧ z.2 < size) ∨ (z.1 = 3 ∧ 0 ≤ z.2 ∧ z.2 ≤ size)))
instance (conv size : Int) (i : Nat) (z : Z) : Decidable (fitZ conv size i z) := by unfold fitZ; exact inferInstance
/-- a sequential zone's pointer fits its state -/
def seqB (size : Int) (z : Z) : Bool := decide ((z.1 = 0 ∧ z.2 = 0) ∨ (z.1 = 1 ∧ 0 ≤ z.2 ∧ z.2 < size) ∨ (z.1 = 2 ∧ 0 < z.2 ∧ z.2 < size) ∨ (z.1 = 3 ∧ 0 ≤ z.2 ∧ z.2 ≤ size))
/-- all zones are -/
def Fit (conv seq size opn : Int) (L : List Z) : Prop := (L.length : Int) = conv + seq ∧ (cnt L : Int) ≤ opn ∧ ∀ i, i < L.length → fitZ conv size i (L.getD i (0, 0))
instance (conv seq size opn : Int) (L : List Z) : Decidable (Fit conv seq size opn L) := by unfold Fit; exact inferInstance
def fitB (conv seq size opn : Int) (L : List Z) : Bool := decide (Fit conv seq size opn L)
theorem fit_yes {conv seq size opn : Int} {L : List Z} (h : Fit conv seq size opn L) : fitB conv seq size opn L = true := decide_eq_true h
theorem fit_no {conv seq size opn : Int} {L : List Z} (h : ¬ Fit conv seq size opn L) : fitB conv seq size opn L = false := decide_eq_false h

/-- the cells of zones -/
def zc : List Z → List Value
  | [] => []
  | z :: L => .int .i64 z.1 :: .int .i64 z.2 :: zc L
theorem zc_length : ∀ L : List Z, (zc L).length = L.length * 2
  | [] => rfl
  | z :: L => by simp [zc, zc_length L]; omega
theorem zc_get0 : ∀ {L : List Z} {k : Nat} {z : Z}, L[k]? = some z → (zc L)[k * 2]? = some (.int .i64 z.1)
  | [], k, z, h => by simp at h
  | y :: L, 0, z, h => by obtain rfl : y = z := by simpa using h
                          rfl
  | y :: L, k + 1, z, h => by
    have := zc_get0 (L := L) (k := k) (by simpa using h)
    rw [show (k + 1) * 2 = k * 2 + 2 by omega]
    simpa [zc] using this
theorem zc_get1 : ∀ {L : List Z} {k : Nat} {z : Z}, L[k]? = some z → (zc L)[k * 2 + 1]? = some (.int .i64 z.2)
  | [], k, z, h => by simp at h
  | y :: L, 0, z, h => by obtain rfl : y = z := by simpa using h
                          rfl
  | y :: L, k + 1, z, h => by
    have := zc_get1 (L := L) (k := k) (by simpa using h)
    rw [show (k + 1) * 2 + 1 = k * 2 + 1 + 2 by omega]
    simpa [zc] using this
theorem zc_append : ∀ L M : List Z, zc (L ++ M) = zc L ++ zc M
  | [], M => rfl
  | z :: L, M => by simp [zc, zc_append L M]
theorem zc_set : ∀ (L : List Z) (k : Nat) (z : Z), zc (L.set k z) = ((zc L).set (k * 2) (.int .i64 z.1)).set (k * 2 + 1) (.int .i64 z.2)
  | [], k, z => rfl
  | y :: L, 0, z => rfl
  | y :: L, k + 1, z => by
    rw [show (k + 1) * 2 + 1 = k * 2 + 1 + 2 by omega, show (k + 1) * 2 = k * 2 + 2 by omega]
    simp [zc, zc_set L k z]
theorem zc_one : ∀ {L : List Z} {u : Value}, u ∈ zc L → u.oneCell' = true
  | [], u, h => by simp [zc] at h
  | z :: L, u, h => by
    simp only [zc, List.mem_cons] at h
    rcases h with rfl | rfl | h
    · rfl
    · rfl
    · exact zc_one h
theorem zc_ne {L : List Z} (h : 0 < L.length) : zc L ≠ [] := by
  intro e
  have := zc_length L
  rw [e] at this
  simp at this
  omega
theorem zc_inj : ∀ {L M : List Z}, zc L = zc M → L = M
  | [], [], _ => rfl
  | [], m :: M, h => by simp [zc] at h
  | z :: L, [], h => by simp [zc] at h
  | z :: L, m :: M, h => by
    simp only [zc, List.cons.injEq, Value.int.injEq, true_and] at h
    rw [zc_inj h.2.2, show z = m from Prod.ext h.1 h.2.1]
theorem zc_set0 {L : List Z} {k : Nat} {z : Z} (h : L[k]? = some z) (s : Int) : (zc L).set (k * 2) (.int .i64 s) = zc (L.set k (s, z.2)) := by
  have h1 := zc_get1 h
  rw [zc_set]
  apply List.ext_getElem?
  intro j
  by_cases hj : j = k * 2 + 1
  · subst hj
    rw [List.getElem?_set_ne (by omega), h1]
    have := (List.getElem?_eq_some_iff.1 h1).1
    rw [List.getElem?_set_self (by simpa using this)]
  · rw [List.getElem?_set_ne (Ne.symm hj)]
theorem zc_set1 {L : List Z} {k : Nat} {z : Z} (h : L[k]? = some z) (p : Int) : (zc L).set (k * 2 + 1) (.int .i64 p) = zc (L.set k (z.1, p)) := by
  have h1 := zc_get0 h
  rw [zc_set]
  apply List.ext_getElem?
  intro j
  by_cases hj : j = k * 2 + 1
  · subst hj
    by_cases hl : k * 2 + 1 < (zc L).length
    · rw [List.getElem?_set_self hl, List.getElem?_set_self (by simpa using hl)]
    · rw [List.getElem?_eq_none (by simp; omega), List.getElem?_eq_none (by simp; omega)]
  · rw [List.getElem?_set_ne (Ne.symm hj), List.getElem?_set_ne (Ne.symm hj)]
    by_cases hk : j = k * 2
    · subst hk
      have := (List.getElem?_eq_some_iff.1 h1).1
      rw [List.getElem?_set_self this, h1]
    · rw [List.getElem?_set_ne (Ne.symm hk)]
theorem zc_replicate : ∀ (n : Nat), zc (List.replicate n (0, 0)) = List.replicate (n * 2) (.int .i64 0)
  | 0 => rfl
  | n + 1 => by
    rw [List.replicate_succ, show (n + 1) * 2 = n * 2 + 1 + 1 by omega, List.replicate_succ, List.replicate_succ, ← zc_replicate n]
    rfl
theorem made_zone (n : Nat) : (madeCells #[.int .i64 0, .int .i64 0] (n * 2)).toList = zc (List.replicate n (0, 0)) := by
  rw [zc_replicate]
  apply List.ext_getElem?
  intro j
  by_cases hj : j < n * 2
  · rcases Nat.mod_two_eq_zero_or_one j with h | h <;> simp [madeCells, hj, h]
  · simp [madeCells, hj]

/-- the zones to which nothing was done: the first k conventional ones are told -/
def newK (n k : Nat) : List Z := List.replicate k (4, 0) ++ List.replicate (n - k) (0, 0)
theorem newK_zero (n : Nat) : newK n 0 = List.replicate n (0, 0) := by simp [newK]
theorem newK_length {n k : Nat} (h : k ≤ n) : (newK n k).length = n := by simp [newK]; omega
theorem newK_at {n k : Nat} (h : k < n) : (newK n k)[k]? = some (0, 0) := by
  unfold newK
  rw [List.getElem?_append_right (by simp), List.length_replicate, List.getElem?_replicate, if_pos (by omega)]
theorem newK_set {n k : Nat} (h : k < n) : (newK n k).set k (4, 0) = newK n (k + 1) := by
  unfold newK
  rw [List.set_append_right _ _ (by simp), List.replicate_succ', show n - k = n - (k + 1) + 1 by omega, List.replicate_succ]
  simp
theorem newK_get {n k i : Nat} (hk : k ≤ n) (h : i < n) : (newK n k)[i]? = some (if i < k then (4, 0) else (0, 0)) := by
  unfold newK
  by_cases hi : i < k
  · rw [List.getElem?_append_left (by simpa using hi)]
    simp [hi]
  · rw [List.getElem?_append_right (by simpa using Nat.le_of_not_lt hi), List.length_replicate, List.getElem?_replicate, if_pos (by omega), if_neg hi]
theorem newK_take_lo {n k i : Nat} (hk : k ≤ n) (h : i < k) : (newK n k).take (i + 1) = (newK n k).take i ++ [(4, 0)] := by
  rw [take_succ (newK_get hk (by omega)), if_pos h]
theorem newK_take_hi {n k i : Nat} (hk : k ≤ n) (h : i < n) (h2 : k ≤ i) : (newK n k).take (i + 1) = (newK n k).take i ++ [(0, 0)] := by
  rw [take_succ (newK_get hk h), if_neg (by omega)]

theorem fit_lo {conv size : Int} {i : Nat} {z : Z} (h : (i : Int) < conv) : fitZ conv size i z ↔ z.1 = 4 ∧ z.2 = 0 := by
  unfold fitZ
  constructor
  · rintro (h1 | h1)
    · exact h1.2
    · omega
  · exact fun h1 => .inl ⟨h, h1⟩
theorem fit_hi {conv size : Int} {i : Nat} {z : Z} (h : conv ≤ (i : Int)) : fitZ conv size i z ↔ seqB size z = true := by
  unfold fitZ seqB
  rw [decide_eq_true_iff]
  constructor
  · rintro (h1 | h1)
    · omega
    · exact h1.2
  · exact fun h1 => .inr ⟨h, h1⟩
theorem fit_ext {conv size : Int} {L : List Z} {k : Nat} {z : Z} (h : ∀ i, i < k → fitZ conv size i (L.getD i (0, 0))) (hz : L[k]? = some z) (hf : fitZ conv size k z) : ∀ i, i < k + 1 → fitZ conv size i (L.getD i (0, 0)) := by
  intro i hi
  by_cases e : i = k
  · subst e
    rw [List.getD_eq_getElem?_getD, hz]
    exact hf
  · exact h i (by omega)
theorem fit_bad {conv seq size opn : Int} {L : List Z} {k : Nat} {z : Z} (hz : L[k]? = some z) (hf : ¬ fitZ conv size k z) : ¬ Fit conv seq size opn L := by
  rintro ⟨_, _, h⟩
  have := h k (List.getElem?_eq_some_iff.1 hz).1
  rw [List.getD_eq_getElem?_getD, hz] at this
  exact hf this
theorem fit_all {conv seq size opn : Int} {L : List Z} (hn : (L.length : Int) = conv + seq) (h : ∀ i, i < L.length → fitZ conv size i (L.getD i (0, 0))) : fitB conv seq size opn L = decide ((cnt L : Int) ≤ opn) := by
  unfold fitB
  rw [decide_eq_decide]
  exact ⟨fun h1 => h1.2.1, fun h1 => ⟨hn, h1, h⟩⟩
end Go.Proofs.YtgnpohkippegpaaGreat.Zone

/-
  The mathematics of package zone, continued: what is asked of one of the zones. No program.
-/
namespace Go.Proofs.YtgnpohkippegpaaGreat.Zone
open Geom

/-- one zone is turned by T, which is told whether there is room for one more open zone -/
def turnL (T : Bool → Z → Z × Int) (conv seq opn : Int) (L : List Z) (zone : Int) : List Z × Int :=
  if hasB conv seq zone = true then (L.set zone.toNat (T (decide ((cnt L : Int) < opn)) (zat L zone)).1, (T (decide ((cnt L : Int) < opn)) (zat L zone)).2) else (L, 6)
theorem turnL_no {T : Bool → Z → Z × Int} {conv seq opn : Int} {L : List Z} {zone : Int} (h : hasB conv seq zone = false) : turnL T conv seq opn L zone = (L, 6) := if_neg (by simp [h])
theorem turnL_yes {T : Bool → Z → Z × Int} {conv seq opn : Int} {L : List Z} {k : Nat} {z z' : Z} {e : Int} (h : hasB conv seq k = true) (hz : L[k]? = some z) (ht : T (decide ((cnt L : Int) < opn)) z = (z', e)) : turnL T conv seq opn L k = (L.set k z', e) := by
  have hz2 : zat L (k : Int) = z := by simp [zat, hz]
  unfold turnL
  rw [if_pos h, hz2, ht]
  rfl
theorem has_in {conv seq zone : Int} (h : hasB conv seq zone = true) : 0 ≤ zone ∧ zone < conv + seq := of_decide_eq_true h
theorem has_no {conv seq zone : Int} (h : ¬ (0 ≤ zone ∧ zone < conv + seq)) : hasB conv seq zone = false := decide_eq_false h
theorem has_yes {conv seq zone : Int} (h : 0 ≤ zone ∧ zone < conv + seq) : hasB conv seq zone = true := decide_eq_true h
theorem in_in {conv soft seq size zone off : Int} (h : inB conv soft seq size zone off = true) : 0 ≤ off ∧ off < sectors conv soft seq size zone := of_decide_eq_true h
theorem in_has {conv soft seq size zone off : Int} (h : inB conv soft seq size zone off = true) : hasB conv seq zone = true := by
  obtain ⟨h1, h2⟩ := in_in h
  refine has_yes ?_
  unfold sectors at h2
  split at h2
  · omega
  · omega
theorem in_bd {conv soft seq size zone off : Int} (h : inB conv soft seq size zone off = true) (hs : soft ≤ 65536) (hz : size ≤ 256) : 0 ≤ off ∧ off ≤ 65536 := by
  obtain ⟨h1, h2⟩ := in_in h
  unfold sectors at h2
  split at h2
  · omega
  · split at h2 <;> omega

/-- Write; why a sector can't be read -/
def writeL (conv soft seq size opn : Int) (L : List Z) (zone off : Int) : List Z × Int :=
  if inB conv soft seq size zone off = true then turnL (fun b z => writeZ off size b z) conv seq opn L zone else (L, 6)
def readE (conv soft seq size : Int) (L : List Z) (zone off : Int) : Int :=
  if inB conv soft seq size zone off = true then (if (zat L zone).1 ≠ 4 ∧ (zat L zone).2 ≤ off then 4 else 0) else 6
theorem turnL_eq (T : Bool → Z → Z × Int) (conv seq opn : Int) (L : List Z) (zone : Int) (h : hasB conv seq zone = true) :
    turnL T conv seq opn L zone = (L.set zone.toNat (T (decide ((cnt L : Int) < opn)) (zat L zone)).1, (T (decide ((cnt L : Int) < opn)) (zat L zone)).2) := if_pos h
section
variable (conv soft seq size opn : Int) (L : List Z) (zone off : Int)
theorem act_0 : act conv soft seq size opn L 0 zone off = writeL conv soft seq size opn L zone off := by
  unfold act writeL
  by_cases h : hasB conv seq zone = true
  · by_cases h2 : inB conv soft seq size zone off = true
    · rw [if_neg (by decide), if_neg (by simp [h]), if_neg (by simp [h2]), if_neg (by decide), if_pos h2, turnL_eq _ _ _ _ _ _ h]
      rfl
    · rw [if_neg (by decide), if_neg (by simp [h]), if_pos ⟨.inl rfl, by simpa using h2⟩, if_neg h2]
  · have h2 : ¬ inB conv soft seq size zone off = true := fun h2 => h (in_has h2)
    rw [if_neg (by decide), if_pos (by simpa using h), if_neg h2]
theorem act_1 : act conv soft seq size opn L 1 zone off = (L, readE conv soft seq size L zone off) := by
  unfold act readE
  by_cases h : hasB conv seq zone = true
  · by_cases h2 : inB conv soft seq size zone off = true
    · rw [if_neg (by decide), if_neg (by simp [h]), if_neg (by simp [h2]), if_pos rfl, if_pos h2]
    · rw [if_neg (by decide), if_neg (by simp [h]), if_pos ⟨.inr rfl, by simpa using h2⟩, if_neg h2]
  · have h2 : ¬ inB conv soft seq size zone off = true := fun h2 => h (in_has h2)
    rw [if_neg (by decide), if_pos (by simpa using h), if_neg h2]
theorem act_k (k : Int) (T : Bool → Z → Z × Int) (h0 : k ≠ 0) (h1 : k ≠ 1) (h6 : k ≠ 6) (hT : ∀ b z, turn k off size b z = T b z) : act conv soft seq size opn L k zone off = turnL T conv seq opn L zone := by
  unfold act
  by_cases h : hasB conv seq zone = true
  · rw [if_neg h6, if_neg (by simp [h]), if_neg (by simp [h0, h1]), if_neg h1, turnL_eq _ _ _ _ _ _ h, hT]
  · rw [if_neg h6, if_pos (by simpa using h), turnL_no (by simpa using h)]
theorem act_2 : act conv soft seq size opn L 2 zone off = turnL (fun _ z => resetZ z) conv seq opn L zone := act_k _ _ _ _ _ _ _ _ 2 _ (by decide) (by decide) (by decide) (fun _ _ => rfl)
theorem act_3 : act conv soft seq size opn L 3 zone off = turnL (fun _ z => finishZ z) conv seq opn L zone := act_k _ _ _ _ _ _ _ _ 3 _ (by decide) (by decide) (by decide) (fun _ _ => rfl)
theorem act_4 : act conv soft seq size opn L 4 zone off = turnL (fun b z => openZ b z) conv seq opn L zone := act_k _ _ _ _ _ _ _ _ 4 _ (by decide) (by decide) (by decide) (fun _ _ => rfl)
theorem act_5 : act conv soft seq size opn L 5 zone off = turnL (fun _ z => closeZ z) conv seq opn L zone := act_k _ _ _ _ _ _ _ _ 5 _ (by decide) (by decide) (by decide) (fun _ _ => rfl)
theorem act_6 : act conv soft seq size opn L 6 zone off = (L.map pow, 0) := if_pos rfl
end

theorem turnL_length (T : Bool → Z → Z × Int) (conv seq opn : Int) (L : List Z) (zone : Int) : (turnL T conv seq opn L zone).1.length = L.length := by
  unfold turnL
  split <;> simp
theorem act_length (conv soft seq size opn : Int) (L : List Z) (k zone off : Int) : (act conv soft seq size opn L k zone off).1.length = L.length := by
  unfold act
  split
  · simp
  · split
    · rfl
    · split
      · rfl
      · split
        · rfl
        · simp
theorem act_other (conv soft seq size opn : Int) (L : List Z) (k zone off : Int) (h6 : k ≠ 6) (j : Nat) (hj : (j : Int) ≠ zone) : (act conv soft seq size opn L k zone off).1[j]? = L[j]? := by
  unfold act
  rw [if_neg h6]
  split
  · rfl
  · rename_i hh
    split
    · rfl
    · split
      · rfl
      · have := has_in (show hasB conv seq zone = true by simpa using hh)
        exact List.getElem?_set_ne (by omega)
theorem pow_pow (z : Z) : pow (pow z) = pow z := by
  unfold pow
  by_cases h : z.1 = 1
  · rw [if_pos h]
    by_cases h2 : z.2 = 0
    · rw [show rest z = (0, 0) from if_pos h2]
      rfl
    · rw [show rest z = (2, z.2) from if_neg h2]
      rfl
  · rw [if_neg h, if_neg h]
theorem pow_twice (L : List Z) : (L.map pow).map pow = L.map pow := by
  rw [List.map_map]
  exact List.map_congr_left fun z _ => pow_pow z

/-- the first k zones without power -/
def powK (L : List Z) (k : Nat) : List Z := (L.take k).map pow ++ L.drop k
theorem powK_zero (L : List Z) : powK L 0 = L := by simp [powK]
theorem powK_all {L : List Z} {k : Nat} (h : L.length = k) : powK L k = L.map pow := by subst h; simp [powK]
theorem powK_get {L : List Z} {k : Nat} {z : Z} (h : L[k]? = some z) : (powK L k)[k]? = some z := by
  have hk := (List.getElem?_eq_some_iff.1 h).1
  unfold powK
  rw [List.getElem?_append_right (by simp; omega)]
  simp only [List.length_map, List.length_take, Nat.min_eq_left (Nat.le_of_lt hk), Nat.sub_self]
  rw [List.getElem?_drop]
  simpa using h
theorem powK_set {L : List Z} {k : Nat} {z : Z} (h : L[k]? = some z) : (powK L k).set k (pow z) = powK L (k + 1) := by
  have hk := (List.getElem?_eq_some_iff.1 h).1
  have hl : ((L.take k).map pow).length = k := by simp; omega
  have hd : L.drop k = z :: L.drop (k + 1) := by
    rw [List.drop_eq_getElem_cons hk]
    congr 1
    rw [List.getElem?_eq_getElem hk] at h
    injection h
  unfold powK
  rw [List.set_append_right _ _ (by omega), hl, Nat.sub_self, hd, take_succ h, List.map_append, List.append_assoc]
  rfl
theorem powK_keep {L : List Z} {k : Nat} {z : Z} (h : L[k]? = some z) (hz : pow z = z) : powK L k = powK L (k + 1) := by
  have h2 := powK_set h
  rw [hz] at h2
  rw [← h2]
  apply List.ext_getElem?
  intro j
  by_cases hj : j = k
  · subst hj
    rw [List.getElem?_set_self (List.getElem?_eq_some_iff.1 (powK_get h)).1, powK_get h]
  · rw [List.getElem?_set_ne (Ne.symm hj)]
end Go.Proofs.YtgnpohkippegpaaGreat.Zone

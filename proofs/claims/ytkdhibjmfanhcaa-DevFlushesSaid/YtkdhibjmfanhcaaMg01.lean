/-
  GeomM GeomC Class
-/
import Derived.Lib.Hide
import Derived.Test.YtkdhibjmfanhcaaProg
import Derived.Test.YtkdhibjmfanhcaaMg00
import Derived.WalkSpells
import Derived.WalkLawsBesides
import Derived.OpenShut
import Derived.Deep.QuietTactic
import Derived.BigQuiet
import Derived.IntWalk
import Derived.Deep.Quiet
/-
  The mathematics of package geom: a measure's numbers, its places. No program.
-/
namespace Go.Proofs.Ytkdhibjmfanhcaa.Geom

/-- a measure's blocks -/
def blocks (seq size : Int) : Int := min ((seq - 5) * (size / 2)) 4096
/-- its pages -/
def pages (seq size : Int) : Int := (blocks seq size + 9) / 10
/-- it is right -/
def Ok (conv soft seq size opn : Int) : Prop := 2 ≤ conv ∧ 6 ≤ seq ∧ conv + seq ≤ 64 ∧ 8 ≤ size ∧ size ≤ 256 ∧ 3 ≤ opn ∧ pages seq size + 3 ≤ soft ∧ soft ≤ 65536
/-- its zones and sizes are -/
def Some (conv seq size : Int) : Prop := 2 ≤ conv ∧ 6 ≤ seq ∧ conv + seq ≤ 64 ∧ 8 ≤ size ∧ size ≤ 256
instance (conv soft seq size opn : Int) : Decidable (Ok conv soft seq size opn) := by unfold Ok; exact inferInstance
def okB (conv soft seq size opn : Int) : Bool := decide (Ok conv soft seq size opn)
theorem ok_yes {conv soft seq size opn : Int} (h : Ok conv soft seq size opn) : okB conv soft seq size opn = true := decide_eq_true h
theorem ok_no {conv soft seq size opn : Int} (h : ¬ Ok conv soft seq size opn) : okB conv soft seq size opn = false := decide_eq_false h
def zonesB (conv seq : Int) : Bool := decide (2 ≤ conv ∧ 6 ≤ seq ∧ conv + seq ≤ 64)
def sizeB (size : Int) : Bool := decide (8 ≤ size ∧ size ≤ 256)
def softB (soft seq size : Int) : Bool := decide (pages seq size + 3 ≤ soft ∧ soft ≤ 65536)
theorem zones_yes {conv seq : Int} (h : 2 ≤ conv ∧ 6 ≤ seq ∧ conv + seq ≤ 64) : zonesB conv seq = true := decide_eq_true h
theorem zones_no {conv seq : Int} (h : ¬ (2 ≤ conv ∧ 6 ≤ seq ∧ conv + seq ≤ 64)) : zonesB conv seq = false := decide_eq_false h
theorem size_yes {size : Int} (h : 8 ≤ size ∧ size ≤ 256) : sizeB size = true := decide_eq_true h
theorem size_no {size : Int} (h : ¬ (8 ≤ size ∧ size ≤ 256)) : sizeB size = false := decide_eq_false h
theorem soft_yes {soft seq size : Int} (h : pages seq size + 3 ≤ soft ∧ soft ≤ 65536) : softB soft seq size = true := decide_eq_true h
theorem soft_no {soft seq size : Int} (h : ¬ (pages seq size + 3 ≤ soft ∧ soft ≤ 65536)) : softB soft seq size = false := decide_eq_false h
theorem Ok.some {conv soft seq size opn : Int} (h : Ok conv soft seq size opn) : Some conv seq size := ⟨h.1, h.2.1, h.2.2.1, h.2.2.2.1, h.2.2.2.2.1⟩

theorem mul_in {a b A B : Int} (h0 : 0 ≤ a) (h1 : a ≤ A) (k0 : 0 ≤ b) (k1 : b ≤ B) : 0 ≤ a * b ∧ a * b ≤ A * B :=
  ⟨Int.mul_nonneg h0 k0, Int.mul_le_mul h1 k1 k0 (Int.le_trans h0 h1)⟩
theorem prod_bd {conv seq size : Int} (h : Some conv seq size) : 4 ≤ (seq - 5) * (size / 2) ∧ (seq - 5) * (size / 2) ≤ 8192 := by
  obtain ⟨h1, h2, h3, h4, h5⟩ := h
  have a := Int.mul_le_mul (show (1 : Int) ≤ seq - 5 by omega) (show (4 : Int) ≤ size / 2 by omega) (by omega) (by omega)
  have b := mul_in (show 0 ≤ seq - 5 by omega) (show seq - 5 ≤ 64 by omega) (show 0 ≤ size / 2 by omega) (show size / 2 ≤ 128 by omega)
  omega
theorem blocks_bd {conv seq size : Int} (h : Some conv seq size) : 4 ≤ blocks seq size ∧ blocks seq size ≤ 4096 := by
  have := prod_bd h
  unfold blocks
  omega
theorem pages_bd {conv seq size : Int} (h : Some conv seq size) : 1 ≤ pages seq size ∧ pages seq size ≤ 410 := by
  have := blocks_bd h
  unfold pages
  omega
theorem rooms {conv seq size : Int} (h : Some conv seq size) : 2 * blocks seq size < seq * size := by
  obtain ⟨h1, h2, h3, h4, h5⟩ := h
  have a : (seq - 5) * (size / 2) * 2 ≤ (seq - 5) * size := by
    rw [Int.mul_assoc]
    exact Int.mul_le_mul_of_nonneg_left (by omega) (by omega)
  have b : (seq - 5) * size = seq * size - 5 * size := Int.sub_mul _ _ _
  unfold blocks
  omega
theorem seats_bd {conv seq size : Int} (h : Some conv seq size) : 48 ≤ seq * size ∧ seq * size ≤ 16384 := by
  obtain ⟨h1, h2, h3, h4, h5⟩ := h
  have a := Int.mul_le_mul (show (6 : Int) ≤ seq by omega) (show (8 : Int) ≤ size by omega) (by omega) (by omega)
  have b := mul_in (show 0 ≤ seq by omega) (show seq ≤ 64 by omega) (show 0 ≤ size by omega) (show size ≤ 256 by omega)
  omega

/-- a sector of a sequential zone -/
def Seat (conv seq size zone off : Int) : Prop := conv ≤ zone ∧ zone < conv + seq ∧ 0 ≤ off ∧ off < size
instance (conv seq size zone off : Int) : Decidable (Seat conv seq size zone off) := by unfold Seat; exact inferInstance
/-- a place's number -/
def num (conv seq size zone off : Int) : Int := if Seat conv seq size zone off then (zone - conv) * size + off + 1 else 0
/-- a number's place: whether there is one, its zone, its sector -/
def isB (seq size n : Int) : Bool := decide (1 ≤ n ∧ n ≤ seq * size)
def zoneOf (conv seq size n : Int) : Int := if 1 ≤ n ∧ n ≤ seq * size then conv + (n - 1) / size else 0
def offOf (seq size n : Int) : Int := if 1 ≤ n ∧ n ≤ seq * size then (n - 1) % size else 0

theorem num_bd {conv seq size zone off : Int} (h : Seat conv seq size zone off) : 1 ≤ (zone - conv) * size + off + 1 ∧ (zone - conv) * size + off + 1 ≤ seq * size := by
  obtain ⟨h1, h2, h3, h4⟩ := h
  have a : (zone - conv) * size ≤ (seq - 1) * size := Int.mul_le_mul_of_nonneg_right (by omega) (by omega)
  have b : (seq - 1) * size = seq * size - 1 * size := Int.sub_mul _ _ _
  have c : 0 ≤ (zone - conv) * size := Int.mul_nonneg (by omega) (by omega)
  omega
theorem seat_of {conv seq size n : Int} (hs : 0 < size) (h : 1 ≤ n ∧ n ≤ seq * size) : Seat conv seq size (conv + (n - 1) / size) ((n - 1) % size) := by
  have a : 0 ≤ (n - 1) / size := Int.ediv_nonneg (by omega) (by omega)
  have b : (n - 1) / size < seq := Int.ediv_lt_of_lt_mul hs (by omega)
  have c := Int.emod_nonneg (n - 1) (show size ≠ 0 by omega)
  have d := Int.emod_lt_of_pos (n - 1) hs
  exact ⟨by omega, by omega, c, d⟩
theorem num_of {conv seq size n : Int} (hs : 0 < size) (h : 1 ≤ n ∧ n ≤ seq * size) : num conv seq size (conv + (n - 1) / size) ((n - 1) % size) = n := by
  unfold num
  rw [if_pos (seat_of hs h), show conv + (n - 1) / size - conv = (n - 1) / size by omega]
  have a := Int.mul_ediv_add_emod (n - 1) size
  rw [Int.mul_comm] at a
  omega
theorem of_num {conv seq size zone off : Int} (h : Seat conv seq size zone off) :
    conv + ((zone - conv) * size + off + 1 - 1) / size = zone ∧ ((zone - conv) * size + off + 1 - 1) % size = off := by
  obtain ⟨h1, h2, h3, h4⟩ := h
  have hs : 0 < size := by omega
  rw [show (zone - conv) * size + off + 1 - 1 = off + (zone - conv) * size by omega, Int.add_mul_ediv_right _ _ (by omega), Int.add_mul_emod_self_right, Int.ediv_eq_zero_of_lt h3 h4, Int.emod_eq_of_lt h3 h4]
  exact ⟨by omega, rfl⟩
end Go.Proofs.Ytkdhibjmfanhcaa.Geom

/-
  What each function of package geom does: one contract a function.
-/
namespace Go.Proofs.Ytkdhibjmfanhcaa
open Go.RowKit Geom
set_option linter.unusedVariables false

/-- a measure as a value -/
@[reducible] def geo (conv soft seq size opn : Int) : Value := .agg #[.int .i64 conv, .int .i64 soft, .int .i64 seq, .int .i64 size, .int .i64 opn]

theorem half_any (n : Int) (w : World) (h0 : 0 ≤ n) (h1 : n ≤ 65536) :
    Calls Try.prog 80 #[.int .i64 n] w fun e w' => e = .returned (.int .i64 (n / 2)) ∧ w = w' := by
  go_enter Try.func80, Try.ntmps80
  go_wp2
  go_ret
  exact ⟨rfl, rfl⟩

theorem blocks_any (conv soft seq size opn : Int) (w : World) (h : Some conv seq size) :
    Calls Try.prog 79 #[.agg #[.int .i64 conv, .int .i64 soft, .int .i64 seq, .int .i64 size, .int .i64 opn]] w fun e w' => e = .returned (.int .i64 (blocks seq size)) ∧ Below w.heap.size w w' := by
  have hp := prod_bd h
  obtain ⟨h1, h2, h3, h4, h5⟩ := h
  have HB := Lib.hid (show blocks seq size = min ((seq - 5) * (size / 2)) 4096 from rfl)
  go_enter Try.func79, Try.ntmps79
  go_wp2
  have hq1 := IntWalk.i64_in (seq - 5) (by omega)
  have hq2 := IntWalk.i64_in ((seq - 5) * (size / 2)) (by omega)
  go_region_with ((with_reducible refine (half_any _ _ (by omega) (by omega)).mono ?_); rintro e w' ⟨rfl, rfl⟩)
  all_goals
    go_wp2
    all_goals
      go_ret
      exact ⟨ret_int (by rw [HB.out]; omega), ((Below.refl _ _).alloc (Nat.le_refl _) _).drew⟩

theorem pages_any (conv soft seq size opn : Int) (w : World) (h : Some conv seq size) :
    Calls Try.prog 78 #[.agg #[.int .i64 conv, .int .i64 soft, .int .i64 seq, .int .i64 size, .int .i64 opn]] w fun e w' => e = .returned (.int .i64 (pages seq size)) ∧ Below w.heap.size w w' := by
  have hb := blocks_bd h
  have HP := Lib.hid (show pages seq size = (blocks seq size + 9) / 10 from rfl)
  have H := Lib.hid fun w => blocks_any conv soft seq size opn w h
  generalize blocks seq size = b at *
  generalize pages seq size = p at *
  obtain ⟨hb0, hb1⟩ := hb
  clear h
  go_enter Try.func78, Try.ntmps78
  go_wp2_with fail
  refine (H.out _).mono ?_
  rintro e w' ⟨rfl, hb⟩
  go_wp2
  go_ret
  exact ⟨ret_int (by rw [HP.out]; omega), bthen ((Below.refl _ _).alloc (Nat.le_refl _) _) hb⟩

theorem zones_any (conv soft seq size opn : Int) (w : World) (h : Some conv seq size) :
    Calls Try.prog 51 #[.agg #[.int .i64 conv, .int .i64 soft, .int .i64 seq, .int .i64 size, .int .i64 opn]] w fun e w' => e = .returned (.int .i64 (conv + seq)) ∧ Below w.heap.size w w' := by
  obtain ⟨h1, h2, h3, h4, h5⟩ := h
  go_enter Try.func51, Try.ntmps51
  go_wp2
  go_ret
  exact ⟨rfl, (Below.refl _ _).alloc (Nat.le_refl _) _⟩

theorem rightZones_any (conv soft seq size opn : Int) (w : World) (k : seq < 9223372036854775808) :
    Calls Try.prog 69 #[.agg #[.int .i64 conv, .int .i64 soft, .int .i64 seq, .int .i64 size, .int .i64 opn]] w fun e w' => e = .returned (.bool (zonesB conv seq)) ∧ Below w.heap.size w w' := by
  by_cases h1 : 2 ≤ conv
  · by_cases h2 : 6 ≤ seq
    · by_cases h3 : conv ≤ 64 - seq
      · have HD := Lib.hid (zones_yes (conv := conv) (seq := seq) (by omega))
        go_enter Try.func69, Try.ntmps69
        go_wp2
        go_ret
        exact ⟨ret_bool HD.out, (Below.refl _ _).alloc (Nat.le_refl _) _⟩
      · have HD := Lib.hid (zones_no (conv := conv) (seq := seq) (by omega))
        go_enter Try.func69, Try.ntmps69
        go_wp2
        go_ret
        exact ⟨ret_bool HD.out, (Below.refl _ _).alloc (Nat.le_refl _) _⟩
    · have HD := Lib.hid (zones_no (conv := conv) (seq := seq) (by omega))
      go_enter Try.func69, Try.ntmps69
      go_wp2
      go_ret
      exact ⟨ret_bool HD.out, (Below.refl _ _).alloc (Nat.le_refl _) _⟩
  · have HD := Lib.hid (zones_no (conv := conv) (seq := seq) (by omega))
    go_enter Try.func69, Try.ntmps69
    go_wp2
    go_ret
    exact ⟨ret_bool HD.out, (Below.refl _ _).alloc (Nat.le_refl _) _⟩

theorem rightSize_any (conv soft seq size opn : Int) (w : World) :
    Calls Try.prog 70 #[.agg #[.int .i64 conv, .int .i64 soft, .int .i64 seq, .int .i64 size, .int .i64 opn]] w fun e w' => e = .returned (.bool (sizeB size)) ∧ Below w.heap.size w w' := by
  by_cases h1 : 8 ≤ size
  · by_cases h2 : size ≤ 256
    · have HD := Lib.hid (size_yes (size := size) (by omega))
      go_enter Try.func70, Try.ntmps70
      go_wp2
      go_ret
      exact ⟨ret_bool HD.out, (Below.refl _ _).alloc (Nat.le_refl _) _⟩
    · have HD := Lib.hid (size_no (size := size) (by omega))
      go_enter Try.func70, Try.ntmps70
      go_wp2
      go_ret
      exact ⟨ret_bool HD.out, (Below.refl _ _).alloc (Nat.le_refl _) _⟩
  · have HD := Lib.hid (size_no (size := size) (by omega))
    go_enter Try.func70, Try.ntmps70
    go_wp2
    go_ret
    exact ⟨ret_bool HD.out, (Below.refl _ _).alloc (Nat.le_refl _) _⟩

set_option maxHeartbeats 1000000 in
theorem rightSoft_any (conv soft seq size opn : Int) (w : World) (h : Some conv seq size) :
    Calls Try.prog 71 #[.agg #[.int .i64 conv, .int .i64 soft, .int .i64 seq, .int .i64 size, .int .i64 opn]] w fun e w' => e = .returned (.bool (softB soft seq size)) ∧ Below w.heap.size w w' := by
  have hp := pages_bd h
  have HY := Lib.hid (show pages seq size + 3 ≤ soft → softB soft seq size = decide (soft ≤ 65536) from fun h => by unfold softB; rw [Bool.eq_iff_iff]; simp [h])
  have HN := Lib.hid fun h => soft_no (soft := soft) (seq := seq) (size := size) h
  have H := Lib.hid fun w => pages_any conv soft seq size opn w h
  generalize pages seq size = p at *
  obtain ⟨hp0, hp1⟩ := hp
  clear h
  have hq := IntWalk.i64_in (p + 3) (by omega)
  by_cases h1 : p + 3 ≤ soft
  · have HD := Lib.hid (HY.out h1)
    go_enter Try.func71, Try.ntmps71
    go_wp2
    go_region_with ((with_reducible refine (H.out _).mono ?_); rintro e w1 ⟨rfl, hb⟩; obtain ⟨hcl, hfz⟩ := bcell hb)
    all_goals
      go_wp2
      go_ret
      exact ⟨ret_bool HD.out, bthen ((Below.refl _ _).alloc (Nat.le_refl _) _).drew hb⟩
  · have hd : decide (p + 3 ≤ soft) = false := by simpa using h1
    have HD := Lib.hid (HN.out (fun h => h1 h.1))
    go_enter Try.func71, Try.ntmps71
    go_wp2
    first | go_region_with ((with_reducible refine (H.out _).mono ?_); rintro e w1 ⟨rfl, hb⟩; obtain ⟨hcl, hfz⟩ := bcell hb) | fail
    all_goals
      go_wp2
      go_ret
      exact ⟨ret_bool HD.out, bthen ((Below.refl _ _).alloc (Nat.le_refl _) _).drew hb⟩
end Go.Proofs.Ytkdhibjmfanhcaa

/-
  A region that draws its order, whose operations read cells that stay and whose callees make memory: one walk, in the order of the text, in any world of a class that the prover names. Nothing here speaks of one program.
-/
namespace Go.Proofs.Ytkdhibjmfanhcaa
open Go.RowKit

section
variable {P : Program}
/-- The class is 'S': the worlds of it are 'f x', so that a fact on the cells of every 'f x' is a rule of the walk's simp. -/
theorem wp_region_class {id : Nat} {Q : Exit → Act → World → Prop} {a : Act} {w : World} {l : List Oper} (S : World → Prop) (hm : P.follows .mixedOrders = true) (hB : Region.lexB .any l.toArray = true) (hS : S w.drew)
    (h : ∀ (X : Type) (_ : Nonempty X) (f : X → World), (∀ x, S (f x)) → (∀ w', S w' → ∃ x, w' = f x) →
      wpQuiet P l.toArray (fun w' => ∃ x, w' = f x) (fun a' => ∀ w', (∃ x, w' = f x) → Q .normal a' w') l a) : (Code.region id l.toArray true).wp P Q a w :=
  wp_region_quiet (C := fun w' => ∃ x : { w' : World // S w' }, w' = x.val) hm hB ⟨⟨w.drew, hS⟩, rfl⟩
    (by simpa using h { w' : World // S w' } ⟨⟨w.drew, hS⟩⟩ (fun x => x.val) (fun x => x.property) (fun w' hw => ⟨⟨w', hw⟩, rfl⟩))

/-- A callee's contract, met in a world of the class. -/
theorem calls_class {X : Type} {f : X → World} {F : FuncId} {args : Array Value} {x : X} {v : Value} {R : World → Prop} (h : Calls P F args (f x) fun e w' => e = .returned v ∧ R w') (hR : ∀ w', R w' → ∃ y, w' = f y) :
    Calls P F args (f x) fun e w'' => e = .returned v ∧ ∃ y, w'' = f y :=
  h.mono fun _ _ ⟨he, hr⟩ => ⟨he, hR _ hr⟩
end
end Go.Proofs.Ytkdhibjmfanhcaa

/-
  The mathematics of package geom: a measure's numbers, its places. No program.
-/
import Derived.Lib.Hide
namespace Go.Proofs.Ytbhcemipjfdemaa.Geom

/-- a measure's blocks -/
def blocks (seq size : Int) : Int := min ((seq - 5) * (size / 2)) 4096
/-- its pages -/
def pages (seq size : Int) : Int := (blocks seq size + 9) / 10
/-- it is right -/
def Ok (conv soft seq size opn : Int) : Prop := 2 ≤ conv ∧ 6 ≤ seq ∧ conv + seq ≤ 64 ∧ 8 ≤ size ∧ size ≤ 256 ∧ 3 ≤ opn ∧ pages seq size + 3 ≤ soft ∧ soft ≤ 65536
/-- its zones and sizes are -/
def Some (conv seq size : Int) : Prop := 2 ≤ conv ∧ 6 ≤ seq ∧ conv + seq ≤ 64 ∧ 8 ≤ size ∧ size ≤ 256
instance (conv soft seq size opn : Int) : Decidable (Ok conv soft seq size opn) := by unfold Ok; exact inferInstance
def okB (conv soft seq size opn : Int) : Bool := decide (Ok conv soft seq size opn)
theorem ok_yes {conv soft seq size opn : Int} (h : Ok conv soft seq size opn) : okB conv soft seq size opn = true := decide_eq_true h
theorem ok_no {conv soft seq size opn : Int} (h : ¬ Ok conv soft seq size opn) : okB conv soft seq size opn = false := decide_eq_false h
def zonesB (conv seq : Int) : Bool := decide (2 ≤ conv ∧ 6 ≤ seq ∧ conv + seq ≤ 64)
def sizeB (size : Int) : Bool := decide (8 ≤ size ∧ size ≤ 256)
def softB (soft seq size : Int) : Bool := decide (pages seq size + 3 ≤ soft ∧ soft ≤ 65536)
theorem zones_yes {conv seq : Int} (h : 2 ≤ conv ∧ 6 ≤ seq ∧ conv + seq ≤ 64) : zonesB conv seq = true := decide_eq_true h
theorem zones_no {conv seq : Int} (h : ¬ (2 ≤ conv ∧ 6 ≤ seq ∧ conv + seq ≤ 64)) : zonesB conv seq = false := decide_eq_false h
theorem size_yes {size : Int} (h : 8 ≤ size ∧ size ≤ 256) : sizeB size = true := decide_eq_true h
theorem size_no {size : Int} (h : ¬ (8 ≤ size ∧ size ≤ 256)) : sizeB size = false := decide_eq_false h
theorem soft_yes {soft seq size : Int} (h : pages seq size + 3 ≤ soft ∧ soft ≤ 65536) : softB soft seq size = true := decide_eq_true h
theorem soft_no {soft seq size : Int} (h : ¬ (pages seq size + 3 ≤ soft ∧ soft ≤ 65536)) : softB soft seq size = false := decide_eq_false h
theorem Ok.some {conv soft seq size opn : Int} (h : Ok conv soft seq size opn) : Some conv seq size := ⟨h.1, h.2.1, h.2.2.1, h.2.2.2.1, h.2.2.2.2.1⟩

theorem mul_in {a b A B : Int} (h0 : 0 ≤ a) (h1 : a ≤ A) (k0 : 0 ≤ b) (k1 : b ≤ B) : 0 ≤ a * b ∧ a * b ≤ A * B :=
  ⟨Int.mul_nonneg h0 k0, Int.mul_le_mul h1 k1 k0 (Int.le_trans h0 h1)⟩
theorem prod_bd {conv seq size : Int} (h : Some conv seq size) : 4 ≤ (seq - 5) * (size / 2) ∧ (seq - 5) * (size / 2) ≤ 8192 := by
  obtain ⟨h1, h2, h3, h4, h5⟩ := h
  have a := Int.mul_le_mul (show (1 : Int) ≤ seq - 5 by omega) (show (4 : Int) ≤ size / 2 by omega) (by omega) (by omega)
  have b := mul_in (show 0 ≤ seq - 5 by omega) (show seq - 5 ≤ 64 by omega) (show 0 ≤ size / 2 by omega) (show size / 2 ≤ 128 by omega)
  omega
theorem blocks_bd {conv seq size : Int} (h : Some conv seq size) : 4 ≤ blocks seq size ∧ blocks seq size ≤ 4096 := by
  have := prod_bd h
  unfold blocks
  omega
theorem pages_bd {conv seq size : Int} (h : Some conv seq size) : 1 ≤ pages seq size ∧ pages seq size ≤ 410 := by
  have := blocks_bd h
  unfold pages
  omega
theorem rooms {conv seq size : Int} (h : Some conv seq size) : 2 * blocks seq size < seq * size := by
  obtain ⟨h1, h2, h3, h4, h5⟩ := h
  have a : (seq - 5) * (size / 2) * 2 ≤ (seq - 5) * size := by
    rw [Int.mul_assoc]
    exact Int.mul_le_mul_of_nonneg_left (by omega) (by omega)
  have b : (seq - 5) * size = seq * size - 5 * size := Int.sub_mul _ _ _
  unfold blocks
  omega
theorem seats_bd {conv seq size : Int} (h : Some conv seq size) : 48 ≤ seq * size ∧ seq * size ≤ 16384 := by
  obtain ⟨h1, h2, h3, h4, h5⟩ := h
  have a := Int.mul_le_mul (show (6 : Int) ≤ seq by omega) (show (8 : Int) ≤ size by omega) (by omega) (by omega)
  have b := mul_in (show 0 ≤ seq by omega) (show seq ≤ 64 by omega) (show 0 ≤ size by omega) (show size ≤ 256 by omega)
  omega

/-- a sector of a sequential zone -/
def Seat (conv seq size zone off : Int) : Prop := conv ≤ zone ∧ zone < conv + seq ∧ 0 ≤ off ∧ off < size
instance (conv seq size zone off : Int) : Decidable (Seat conv seq size zone off) := by unfold Seat; exact inferInstance
/-- a place's number -/
def num (conv seq size zone off : Int) : Int := if Seat conv seq size zone off then (zone - conv) * size + off + 1 else 0
/-- a number's place: whether there is one, its zone, its sector -/
def isB (seq size n : Int) : Bool := decide (1 ≤ n ∧ n ≤ seq * size)
def zoneOf (conv seq size n : Int) : Int := if 1 ≤ n ∧ n ≤ seq * size then conv + (n - 1) / size else 0
def offOf (seq size n : Int) : Int := if 1 ≤ n ∧ n ≤ seq * size then (n - 1) % size else 0

theorem num_bd {conv seq size zone off : Int} (h : Seat conv seq size zone off) : 1 ≤ (zone - conv) * size + off + 1 ∧ (zone - conv) * size + off + 1 ≤ seq * size := by
  obtain ⟨h1, h2, h3, h4⟩ := h
  have a : (zone - conv) * size ≤ (seq - 1) * size := Int.mul_le_mul_of_nonneg_right (by omega) (by omega)
  have b : (seq - 1) * size = seq * size - 1 * size := Int.sub_mul _ _ _
  have c : 0 ≤ (zone - conv) * size := Int.mul_nonneg (by omega) (by omega)
  omega
theorem seat_of {conv seq size n : Int} (hs : 0 < size) (h : 1 ≤ n ∧ n ≤ seq * size) : Seat conv seq size (conv + (n - 1) / size) ((n - 1) % size) := by
  have a : 0 ≤ (n - 1) / size := Int.ediv_nonneg (by omega) (by omega)
  have b : (n - 1) / size < seq := Int.ediv_lt_of_lt_mul hs (by omega)
  have c := Int.emod_nonneg (n - 1) (show size ≠ 0 by omega)
  have d := Int.emod_lt_of_pos (n - 1) hs
  exact ⟨by omega, by omega, c, d⟩
theorem num_of {conv seq size n : Int} (hs : 0 < size) (h : 1 ≤ n ∧ n ≤ seq * size) : num conv seq size (conv + (n - 1) / size) ((n - 1) % size) = n := by
  unfold num
  rw [if_pos (seat_of hs h), show conv + (n - 1) / size - conv = (n - 1) / size by omega]
  have a := Int.mul_ediv_add_emod (n - 1) size
  rw [Int.mul_comm] at a
  omega
theorem of_num {conv seq size zone off : Int} (h : Seat conv seq size zone off) :
    conv + ((zone - conv) * size + off + 1 - 1) / size = zone ∧ ((zone - conv) * size + off + 1 - 1) % size = off := by
  obtain ⟨h1, h2, h3, h4⟩ := h
  have hs : 0 < size := by omega
  rw [show (zone - conv) * size + off + 1 - 1 = off + (zone - conv) * size by omega, Int.add_mul_ediv_right _ _ (by omega), Int.add_mul_emod_self_right, Int.ediv_eq_zero_of_lt h3 h4, Int.emod_eq_of_lt h3 h4]
  exact ⟨by omega, rfl⟩
end Go.Proofs.Ytbhcemipjfdemaa.Geom

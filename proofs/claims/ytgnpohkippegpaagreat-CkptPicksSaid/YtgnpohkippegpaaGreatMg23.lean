/-
  RecC RecD RecE
-/
import Derived.Test.YtgnpohkippegpaaGreatMg22
import Derived.Test.YtgnpohkippegpaaGreatMg00
import Derived.Test.YtgnpohkippegpaaGreatMg17
import Derived.Test.YtgnpohkippegpaaGreatMg18
import Derived.Laws.CopyOwn
import Derived.Deep.RegionLaw
import Derived.Laws.Cover3
/-
  What each function of package rec does: numbered, fits, Right, put, get.
-/
namespace Go.Proofs.YtgnpohkippegpaaGreat
open Go.RowKit Word Rec
set_option linter.unusedVariables false

end Go.Proofs.YtgnpohkippegpaaGreat

/-
  Package rec: Lay.
-/
namespace Go.Proofs.YtgnpohkippegpaaGreat
open Go.RowKit Word Crc Rec
set_option linter.unusedVariables false

namespace Rec
/-- the sector, as Lay's stores make it -/
def stage (r : Rc) : Nat → List Int
  | 0 => pg0
  | 1 => pg0.set 0 r.kind
  | 2 => put (pg0.set 0 r.kind) 1 8 r.epoch
  | 3 => put (put (pg0.set 0 r.kind) 1 8 r.epoch) 9 8 r.seq
  | 4 => put (put (put (pg0.set 0 r.kind) 1 8 r.epoch) 9 8 r.seq) 17 4 r.block
  | _ => put (put (put (put (pg0.set 0 r.kind) 1 8 r.epoch) 9 8 r.seq) 17 4 r.block) 21 4 r.count
end Rec
theorem put_mid (xs ys : List Int) (j k n : Nat) (y : Int) (hz : xs.length = j) : put (xs ++ List.replicate (k + n) 0) j k y = xs ++ le k y ++ List.replicate n 0 := by
  subst hz
  unfold put
  rw [List.take_left, ← List.drop_drop, List.drop_left, List.drop_replicate, List.append_assoc]
  congr 3
  omega
theorem stage5 (r : Rc) : stage r 5 = [r.kind] ++ le 8 r.epoch ++ le 8 r.seq ++ le 4 r.block ++ le 4 r.count ++ List.replicate 39 0 := by
  show put (put (put (put (pg0.set 0 r.kind) 1 8 r.epoch) 9 8 r.seq) 17 4 r.block) 21 4 r.count = _
  rw [show pg0.set 0 r.kind = [r.kind] ++ List.replicate (8 + 55) 0 from rfl, put_mid _ [] 1 8 55 _ rfl]
  rw [show (55 : Nat) = 8 + 47 from rfl, put_mid _ [] 9 8 47 _ (by simp [le_length])]
  rw [show (47 : Nat) = 4 + 43 from rfl, put_mid _ [] 17 4 43 _ (by simp [le_length])]
  rw [show (43 : Nat) = 4 + 39 from rfl, put_mid _ [] 21 4 39 _ (by simp [le_length])]
theorem stage6 (r : Rc) (h : r.data.length = 32) : (stage r 5).take 25 ++ (r.data ++ (stage r 5).drop 57) = front r ++ List.replicate 4 0 := by
  have hl : ([r.kind] ++ le 8 r.epoch ++ le 8 r.seq ++ le 4 r.block ++ le 4 r.count).length = 25 := by simp [le_length]
  have hf : front r ++ List.replicate 4 0 = ([r.kind] ++ le 8 r.epoch ++ le 8 r.seq ++ le 4 r.block ++ le 4 r.count) ++ (r.data ++ List.replicate 7 0) := by
    unfold front
    simp only [List.append_assoc]
    rfl
  rw [stage5, hf]
  generalize [r.kind] ++ le 8 r.epoch ++ le 8 r.seq ++ le 4 r.block ++ le 4 r.count = xs at hl
  rw [List.take_left' hl, show (57 : Nat) = 25 + 32 from rfl, ← List.drop_drop, List.drop_left' hl, List.drop_replicate]
theorem stage7 (r : Rc) (h : r.data.length = 32) : put (front r ++ List.replicate 4 0) 60 4 ((Crc.sum (front r) : Nat) : Int) = layL r := by
  rw [put_end _ _ 60 4 _ (front_length r h) (by simp)]
  rfl
theorem sum_front (r : Rc) (h : r.data.length = 32) : (front r ++ List.replicate 4 (0 : Int)).take 60 = front r := List.take_left' (front_length r h)

end Go.Proofs.YtgnpohkippegpaaGreat

/-
  Package rec: Read.
-/
namespace Go.Proofs.YtgnpohkippegpaaGreat
open Go.RowKit Word Crc Rec
set_option linter.unusedVariables false

end Go.Proofs.YtgnpohkippegpaaGreat

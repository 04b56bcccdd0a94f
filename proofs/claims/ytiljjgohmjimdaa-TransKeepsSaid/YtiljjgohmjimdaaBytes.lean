/-
  Bytes in memory as lists of integers; how results are told. No function of the program.
-/
import Derived.Test.YtiljjgohmjimdaaProg
import Derived.Test.YtiljjgohmjimdaaMem
import Derived.Test.YtiljjgohmjimdaaWordM
import Derived.WalkSpells
import Derived.WalkLawsBesides
import Derived.OpenShut
import Derived.Deep.QuietTactic
import Derived.BigQuiet
import Derived.IntWalk
namespace Go.Proofs.Ytiljjgohmjimdaa
open Go.RowKit Word

def bs (zs : List Int) : List Value := zs.map (Value.int .u8)
theorem bs_get {zs : List Int} {k : Nat} (h : k < zs.length) : (bs zs)[k]? = some (.int .u8 (zs.getD k 0)) := by simp [bs, h]
theorem bs_length (zs : List Int) : (bs zs).length = zs.length := by simp [bs]
theorem bs_one (zs : List Int) : ∀ u ∈ bs zs, u.oneCell' = true := ints_oneCell .u8 zs
theorem bs_inj {xs ys : List Int} (h : bs xs = bs ys) : xs = ys := by
  unfold bs at h
  exact (List.map_inj_right (fun a b h => by injection h)).1 h
theorem octets_getD {zs : List Int} (h : octets zs) (k : Nat) : 0 ≤ zs.getD k 0 ∧ zs.getD k 0 ≤ 255 := by
  rw [List.getD_eq_getElem?_getD]
  cases e : zs[k]? with
  | none => simp
  | some z => exact h z (List.mem_of_getElem? e)

theorem bs_append (xs ys : List Int) : bs (xs ++ ys) = bs xs ++ bs ys := List.map_append
theorem bs_replicate (n : Nat) (z : Int) : bs (List.replicate n z) = List.replicate n (.int .u8 z) := List.map_replicate
theorem bs_drop (n : Nat) (zs : List Int) : bs (zs.drop n) = (bs zs).drop n := List.map_drop
theorem bs_take (n : Nat) (zs : List Int) : bs (zs.take n) = (bs zs).take n := List.map_take
theorem bs_set (zs : List Int) (j : Nat) (x : Int) : bs (zs.set j x) = (bs zs).set j (.int .u8 x) := by simp [bs, List.map_set]
theorem ret_u64 {a b : Int} (h : b = a) : Ending.returned (.int .u64 a) = .returned (.int .u64 b) := by rw [h]
theorem ret_u32 {a b : Int} (h : b = a) : Ending.returned (.int .u32 a) = .returned (.int .u32 b) := by rw [h]
theorem wf_u8 {l : List Int} (h : ∀ y ∈ l, (Lit.int .u8 y).wf = true) : octets l := fun y hy => by
  have := h y hy
  simpa [Lit.wf, IntKind.min, IntKind.max, IntKind.signed, IntKind.bits] using this
theorem wf_byte {x : Int} (h : (Lit.int .u8 x).wf = true) : 0 ≤ x ∧ x ≤ 255 := by
  simpa [Lit.wf, IntKind.min, IntKind.max, IntKind.signed, IntKind.bits] using h
theorem wf_u16 {x : Int} (h : (Lit.int .u16 x).wf = true) : 0 ≤ x ∧ x ≤ 65535 := by
  simpa [Lit.wf, IntKind.min, IntKind.max, IntKind.signed, IntKind.bits] using h
theorem wf_u64 {x : Int} (h : (Lit.int .u64 x).wf = true) : 0 ≤ x ∧ x < 18446744073709551616 := by
  simp [Lit.wf, IntKind.min, IntKind.max, IntKind.signed, IntKind.bits] at h
  omega

end Go.Proofs.Ytiljjgohmjimdaa

/-
  Package dev: the device's block; why something is refused; the numbers that it tells.
-/
import Derived.Test.YtdacdnpghngiiaaDevM
import Derived.Test.YtdacdnpghngiiaaFrame
import Derived.Test.YtdacdnpghngiiaaMaps
import Derived.Deep.MidRow
namespace Go.Proofs.Ytdacdnpghngiiaa
open Go.RowKit Geom Zone Dev
set_option linter.unusedVariables false

abbrev dcs (conv soft seq size opn : Int) (zv : Value) (lb : Nat) (cv : Value) (nb : Nat) (down : Bool) (armed ill : Int) : Array Value :=
  #[.int .i64 conv, .int .i64 soft, .int .i64 seq, .int .i64 size, .int .i64 opn, zv, .map (some lb), cv, .map (some nb), .bool down, .int .i64 armed, .int .i64 ill]
/-- block d is a device -/
def DBlk (w : World) (d : Nat) (conv soft seq size opn : Int) (zv : Value) (lb : Nat) (cv : Value) (nb : Nat) (down : Bool) (armed ill : Int) : Prop :=
  w.heap[d]? = some (.cells (dcs conv soft seq size opn zv lb cv nb down armed ill) 70 (0, 0))
abbrev dp (d : Nat) : Value := .pointer (some ⟨d, 0, none⟩)

section
variable {w : World} {d : Nat} {conv soft seq size opn : Int} {zv : Value} {lb : Nat} {cv : Value} {nb : Nat} {down : Bool} {armed ill : Int}
theorem DBlk.lt (h : DBlk w d conv soft seq size opn zv lb cv nb down armed ill) : d < w.heap.size := lt_of_block h
theorem DBlk.same {w' : World} (h : DBlk w d conv soft seq size opn zv lb cv nb down armed ill) (hb : w'.heap[d]? = w.heap[d]?) : DBlk w' d conv soft seq size opn zv lb cv nb down armed ill := hb.trans h
theorem DBlk.frozen (h : DBlk w d conv soft seq size opn zv lb cv nb down armed ill) (i : Nat) : w.frozen? ⟨d, i, none⟩ = false := frozen_of_row _ _ _ _ _ h
theorem DBlk.geo (h : DBlk w d conv soft seq size opn zv lb cv nb down armed ill) : w.cell? ⟨d, 0, none⟩ = some (.int .i64 conv) ∧ w.cell? ⟨d, 1, none⟩ = some (.int .i64 soft) ∧ w.cell? ⟨d, 2, none⟩ = some (.int .i64 seq) ∧
    w.cell? ⟨d, 3, none⟩ = some (.int .i64 size) ∧ w.cell? ⟨d, 4, none⟩ = some (.int .i64 opn) :=
  ⟨cell_of_row _ _ 0 _ _ _ h, cell_of_row _ _ 1 _ _ _ h, cell_of_row _ _ 2 _ _ _ h, cell_of_row _ _ 3 _ _ _ h, cell_of_row _ _ 4 _ _ _ h⟩
theorem DBlk.mem (h : DBlk w d conv soft seq size opn zv lb cv nb down armed ill) : w.cell? ⟨d, 5, none⟩ = some zv ∧ w.cell? ⟨d, 6, none⟩ = some (.map (some lb)) ∧ w.cell? ⟨d, 7, none⟩ = some cv ∧ w.cell? ⟨d, 8, none⟩ = some (.map (some nb)) :=
  ⟨cell_of_row _ _ 5 _ _ _ h, cell_of_row _ _ 6 _ _ _ h, cell_of_row _ _ 7 _ _ _ h, cell_of_row _ _ 8 _ _ _ h⟩
theorem DBlk.num (h : DBlk w d conv soft seq size opn zv lb cv nb down armed ill) : w.cell? ⟨d, 9, none⟩ = some (.bool down) ∧ w.cell? ⟨d, 10, none⟩ = some (.int .i64 armed) ∧ w.cell? ⟨d, 11, none⟩ = some (.int .i64 ill) :=
  ⟨cell_of_row _ _ 9 _ _ _ h, cell_of_row _ _ 10 _ _ _ h, cell_of_row _ _ 11 _ _ _ h⟩
theorem DBlk.set5 (h : DBlk w d conv soft seq size opn zv lb cv nb down armed ill) (v : Value) : DBlk (w.setCell ⟨d, 5, none⟩ v) d conv soft seq size opn v lb cv nb down armed ill := (heap_setCell_same _ _ _ _ _ _ h).trans (by simp)
theorem DBlk.set7 (h : DBlk w d conv soft seq size opn zv lb cv nb down armed ill) (v : Value) : DBlk (w.setCell ⟨d, 7, none⟩ v) d conv soft seq size opn zv lb v nb down armed ill := (heap_setCell_same _ _ _ _ _ _ h).trans (by simp)
theorem DBlk.set8 (h : DBlk w d conv soft seq size opn zv lb cv nb down armed ill) (b : Nat) : DBlk (w.setCell ⟨d, 8, none⟩ (.map (some b))) d conv soft seq size opn zv lb cv b down armed ill := (heap_setCell_same _ _ _ _ _ _ h).trans (by simp)
theorem DBlk.set9 (h : DBlk w d conv soft seq size opn zv lb cv nb down armed ill) (b : Bool) : DBlk (w.setCell ⟨d, 9, none⟩ (.bool b)) d conv soft seq size opn zv lb cv nb b armed ill := (heap_setCell_same _ _ _ _ _ _ h).trans (by simp)
theorem DBlk.set10 (h : DBlk w d conv soft seq size opn zv lb cv nb down armed ill) (n : Int) : DBlk (w.setCell ⟨d, 10, none⟩ (.int .i64 n)) d conv soft seq size opn zv lb cv nb down n ill := (heap_setCell_same _ _ _ _ _ _ h).trans (by simp)
theorem DBlk.set11 (h : DBlk w d conv soft seq size opn zv lb cv nb down armed ill) (n : Int) : DBlk (w.setCell ⟨d, 11, none⟩ (.int .i64 n)) d conv soft seq size opn zv lb cv nb down armed n := (heap_setCell_same _ _ _ _ _ _ h).trans (by simp)

theorem DBlk.ne_map {n : Nat} {f : Int × Int → Option Value} {b : Nat} (h : DBlk w d conv soft seq size opn zv lb cv nb down armed ill) (hm : MapIs w b n f) : d ≠ b := by
  rintro rfl
  obtain ⟨es, clock, h2⟩ := hm.is_map
  unfold DBlk at h
  rw [h2] at h
  cases h
theorem DBlk.ne_row {e : TypeId} {sz n g : Nat} {v : Value} {xs : List Value} (h : DBlk w d conv soft seq size opn zv lb cv nb down armed ill) (hr : w.ownsRow 0 e sz v n xs) (hg : v.ownBlock = some g) (he : e ≠ 70) : d ≠ g := by
  rintro rfl
  obtain ⟨_, cur, h2⟩ := own_type hr hg
  unfold DBlk at h
  rw [h2] at h
  injection h with h
  injection h with _ h
  exact he h
theorem MapIs.ne_row {e : TypeId} {sz n m g b : Nat} {f : Int × Int → Option Value} {v : Value} {xs : List Value} (h : MapIs w b m f) (hr : w.ownsRow 0 e sz v n xs) (hg : v.ownBlock = some g) : b ≠ g := by
  rintro rfl
  obtain ⟨_, cur, h2⟩ := own_type hr hg
  obtain ⟨es, clock, h3⟩ := h.is_map
  rw [h2] at h3
  cases h3
theorem refusal_down (e : Int) (h : DBlk w d conv soft seq size opn zv lb cv nb true armed ill) :
    Calls Try.prog 44 #[dp d, .int .i64 e] w fun x w' => x = .returned (.int .i64 2) ∧ w = w' := by
  obtain ⟨c9, c10, c11⟩ := h.num
  go_enter Try.func44, Try.ntmps44
  go_wp2
  go_ret
  exact ⟨rfl, rfl⟩
theorem refusal_ok (h : DBlk w d conv soft seq size opn zv lb cv nb false armed ill) :
    Calls Try.prog 44 #[dp d, .int .i64 0] w fun x w' => x = .returned (.int .i64 0) ∧ w = w' := by
  obtain ⟨c9, c10, c11⟩ := h.num
  go_enter Try.func44, Try.ntmps44
  go_wp2
  go_ret
  exact ⟨rfl, rfl⟩
theorem refusal_no (e : Int) (he : e ≠ 0) (h0 : 0 ≤ ill) (h1 : ill ≤ 1000000) (h : DBlk w d conv soft seq size opn zv lb cv nb false armed ill) :
    Calls Try.prog 44 #[dp d, .int .i64 e] w fun x w' => x = .returned (.int .i64 e) ∧ w.setCell ⟨d, 11, none⟩ (.int .i64 (ill + 1)) = w' := by
  obtain ⟨c9, c10, c11⟩ := h.num
  have f11 := h.frozen 11
  have hq : (e != 0) = true := by simpa using he
  go_enter Try.func44, Try.ntmps44
  go_wp2
  go_ret
  exact ⟨rfl, rfl⟩
theorem down_any (h : DBlk w d conv soft seq size opn zv lb cv nb down armed ill) :
    Calls Try.prog 11 #[dp d] w fun x w' => x = .returned (.bool down) ∧ w = w' := by
  obtain ⟨c9, c10, c11⟩ := h.num
  go_enter Try.func11, Try.ntmps11
  go_wp2
  go_ret
  exact ⟨rfl, rfl⟩
theorem illegal_any (h : DBlk w d conv soft seq size opn zv lb cv nb down armed ill) :
    Calls Try.prog 23 #[dp d] w fun x w' => x = .returned (.int .i64 ill) ∧ w = w' := by
  obtain ⟨c9, c10, c11⟩ := h.num
  go_enter Try.func23, Try.ntmps23
  go_wp2
  go_ret
  exact ⟨rfl, rfl⟩
theorem cached_any {A : Option Addr} {n c : Nat} (h : DBlk w d conv soft seq size opn zv lb (.slice A n c) nb down armed ill) :
    Calls Try.prog 17 #[dp d] w fun x w' => x = .returned (.int .i64 n) ∧ w = w' := by
  obtain ⟨c5, c6, c7, c8⟩ := h.mem
  go_enter Try.func17, Try.ntmps17
  go_wp2
  go_ret
  exact ⟨rfl, rfl⟩
/-- Arm, of a device that is down, and of one that isn't -/
theorem arm_down (n : Int) (h : DBlk w d conv soft seq size opn zv lb cv nb true armed ill) :
    Calls Try.prog 9 #[dp d, .int .i64 n] w fun x w' => x = .returned (.tuple #[]) ∧ w = w' := by
  obtain ⟨c9, c10, c11⟩ := h.num
  go_enter Try.func9, Try.ntmps9
  go_wp2
  exact bodyPost_ret (v := .tuple #[]) (by simp [results, Try.results9, go_sem]) rfl ⟨rfl, rfl⟩
theorem arm_up (n : Int) (h : DBlk w d conv soft seq size opn zv lb cv nb false armed ill) :
    Calls Try.prog 9 #[dp d, .int .i64 n] w fun x w' => x = .returned (.tuple #[]) ∧ (w.setCell ⟨d, 10, none⟩ (.int .i64 (max n 0))).setCell ⟨d, 9, none⟩ (.bool (n == 0)) = w' := by
  obtain ⟨c9, c10, c11⟩ := h.num
  have f9 := h.frozen 9
  have f10 := h.frozen 10
  by_cases hn : 0 ≤ n
  · rw [show max n 0 = n by omega]
    by_cases h0 : n = 0
    · subst h0
      go_enter Try.func9, Try.ntmps9
      go_wp2
      go_end0
      exact ⟨rfl, rfl⟩
    · have h1 : 0 < n := by omega
      go_enter Try.func9, Try.ntmps9
      go_wp2
      go_end0
      exact ⟨rfl, rfl⟩
  · rw [show max n 0 = 0 by omega]
    have h1 : n < 0 := by omega
    go_enter Try.func9, Try.ntmps9
    go_wp2
    go_end0
    exact ⟨rfl, rfl⟩
end
end Go.Proofs.Ytdacdnpghngiiaa

/-
  ScS ScI
-/
import Derived.Test.YthgjlofebicpiaaMg40
import Derived.Shelf.SlSortCmp.WholeK
import Derived.Test.YthgjlofebicpiaaMg38
/-
  slices.SortFunc of found records: the library's contract, laid at this program's own numbers; what becomes of the list.
-/
namespace Go.Proofs.Ythgjlofebicpiaa
open Go.Shelf Go.RowKit Word Rec Scan
set_option linter.unusedVariables false

def sort_ren : Go.Shelf.Ren := ⟨fun | 6 => 27 | 15 => 51 | 14 => 50 | 28 => 82 | 29 => 83 | 20 => 74 | 21 => 75 | 22 => 76 | 23 => 77 | 24 => 78 | 25 => 79 | 26 => 80 | 27 => 81 | 46 => 98 | 47 => 99 | 48 => 100 | 49 => 101 | 50 => 102 | 57 => 107 | n => n, fun | 22 => 29 | 24 => 56 | 25 => 72 | 3 => 3 | 39 => 105 | 0 => 0 | 53 => 116 | 55 => 44 | 4 => 4 | 46 => 127 | 45 => 126 | 50 => 110 | 5 => 5 | 9 => 9 | 66 => 143 | 70 => 147 | 76 => 153 | 77 => 154 | n => n, fun n => n⟩
theorem sort_laid : SlLaysF0.n6 Try.prog sort_ren := {
  mixed := by kernel_rfl,
  f6 := ⟨Try.f27.name, by decide, Try.func27.trans (congrArg some (by kernel_rfl))⟩,
  f14 := ⟨Try.f50.name, by decide, Try.func50.trans (congrArg some (by kernel_rfl))⟩,
  f15 := Try.func51.trans (congrArg some (by kernel_rfl)),
  f20 := ⟨Try.f74.name, by decide, Try.func74.trans (congrArg some (by kernel_rfl))⟩,
  f21 := ⟨Try.f75.name, by decide, Try.func75.trans (congrArg some (by kernel_rfl))⟩,
  f22 := ⟨Try.f76.name, by decide, Try.func76.trans (congrArg some (by kernel_rfl))⟩,
  f23 := ⟨Try.f77.name, by decide, Try.func77.trans (congrArg some (by kernel_rfl))⟩,
  f24 := ⟨Try.f78.name, by decide, Try.func78.trans (congrArg some (by kernel_rfl))⟩,
  f25 := ⟨Try.f79.name, by decide, Try.func79.trans (congrArg some (by kernel_rfl))⟩,
  f26 := ⟨Try.f80.name, by decide, Try.func80.trans (congrArg some (by kernel_rfl))⟩,
  f27 := ⟨Try.f81.name, by decide, Try.func81.trans (congrArg some (by kernel_rfl))⟩,
  f28 := Try.func82.trans (congrArg some (by kernel_rfl)),
  f29 := Try.func83.trans (congrArg some (by kernel_rfl)),
  f46 := ⟨Try.f98.name, by decide, Try.func98.trans (congrArg some (by kernel_rfl))⟩,
  f47 := Try.func99.trans (congrArg some (by kernel_rfl)),
  f48 := Try.func100.trans (congrArg some (by kernel_rfl)),
  f49 := ⟨Try.f101.name, by decide, Try.func101.trans (congrArg some (by kernel_rfl))⟩,
  f50 := ⟨Try.f102.name, by decide, Try.func102.trans (congrArg some (by kernel_rfl))⟩,
  f57 := ⟨Try.f107.name, by decide, Try.func107.trans (congrArg some (by kernel_rfl))⟩,
  t0 := Try.underlying0,
  a0 := Try.isAgg0,
  z0 := Try.sizeOf0,
  v0 := Try.zeroValue0,
  t3 := Try.underlying3,
  a3 := Try.isAgg3,
  z3 := Try.sizeOf3,
  v3 := Try.zeroValue3,
  t4 := Try.underlying4,
  a4 := Try.isAgg4,
  z4 := Try.sizeOf4,
  v4 := Try.zeroValue4,
  t5 := Try.underlying5,
  a5 := Try.isAgg5,
  z5 := Try.sizeOf5,
  v5 := Try.zeroValue5,
  t9 := Try.underlying9,
  a9 := Try.isAgg9,
  z9 := Try.sizeOf9,
  v9 := Try.zeroValue9,
  t22 := Try.underlying29,
  a22 := Try.isAgg29,
  z22 := Try.sizeOf29,
  v22 := Try.zeroValue29,
  t25 := Try.underlying72,
  a25 := Try.isAgg72,
  z25 := Try.sizeOf72,
  v25 := Try.zeroValue72,
  t39 := Try.underlying105,
  a39 := Try.isAgg105,
  z39 := Try.sizeOf105,
  v39 := Try.zeroValue105,
  t45 := Try.underlying126,
  a45 := Try.isAgg126,
  z45 := Try.sizeOf126,
  v45 := Try.zeroValue126,
  t46 := Try.underlying127,
  a46 := Try.isAgg127,
  z46 := Try.sizeOf127,
  v46 := Try.zeroValue127,
  t50 := Try.underlying110,
  a50 := Try.isAgg110,
  z50 := Try.sizeOf110,
  v50 := Try.zeroValue110,
  t53 := Try.underlying116,
  a53 := Try.isAgg116,
  z53 := Try.sizeOf116,
  v53 := Try.zeroValue116,
  t55 := Try.underlying44,
  a55 := Try.isAgg44,
  z55 := Try.sizeOf44,
  v55 := Try.zeroValue44,
  t66 := Try.underlying143,
  a66 := Try.isAgg143,
  z66 := Try.sizeOf143,
  v66 := Try.zeroValue143,
  t70 := Try.underlying147,
  a70 := Try.isAgg147,
  z70 := Try.sizeOf147,
  v70 := Try.zeroValue147,
  t76 := Try.underlying153,
  a76 := Try.isAgg153,
  z76 := Try.sizeOf153,
  v76 := Try.zeroValue153,
  t77 := Try.underlying154,
  a77 := Try.isAgg154,
  z77 := Try.sizeOf154,
  v77 := Try.zeroValue154 }

namespace Scan
/-- 32 bytes of data -/
def fit32 (f : Fo) : Fo := { f with r := { f.r with data := (f.r.data ++ z32).take 32 } }
theorem fit32_len (f : Fo) : (fit32 f).r.data.length = 32 := by simp [fit32, z32]
theorem fit32_eq {f : Fo} (h : FIn f) : fit32 f = f := by
  have h1 := h.1
  unfold fit32
  rw [List.take_append_of_le_length (by omega), List.take_of_length_le (by omega)]
theorem lt_ltOf (x y : Fo) : ltOf cfS x y = decide (Lt x y) := by
  unfold ltOf
  by_cases h : Lt x y
  · rw [decide_eq_true h, decide_eq_true (cfS_neg.2 h)]
  · rw [decide_eq_false h, decide_eq_false (fun h2 => h (cfS_neg.1 h2))]
theorem swo : Sort.SWO (ltOf cfS) where
  irrefl x := by rw [lt_ltOf]; exact decide_eq_false (lt_irrefl x)
  trans x y z h1 h2 := by
    rw [lt_ltOf] at *
    exact decide_eq_true (lt_trans (of_decide_eq_true h1) (of_decide_eq_true h2))
  ntrans x y z h1 h2 := by
    rw [lt_ltOf] at *
    have h1 := of_decide_eq_false h1
    have h2 := of_decide_eq_false h2
    refine decide_eq_false ?_
    unfold Lt at *
    omega
instance : Inhabited Fo := ⟨fo0⟩
end Scan

section
theorem flat_fls {l : List Fo} (h : ∀ f ∈ l, FIn f) : Sort.flatK (fun f => fcs (fit32 f)) 38 l.toArray = (fls l).toArray := by
  have hl := fls_length h
  apply Sort.ext_get!
  · simp [hl]
  · intro t ht
    have ht' : t < l.length * 38 := by simpa using ht
    rw [Sort.get_flatK _ _ _ t (by simpa using ht')]
    have hk : t / 38 < l.length := by omega
    have hf : l[t / 38]? = some (l[t / 38]'hk) := List.getElem?_eq_getElem hk
    have hfi := h _ (List.getElem_mem hk)
    have hj : t % 38 < (fcs (l[t / 38]'hk)).length := by rw [fcs_length hfi]; omega
    have hv := fls_at h hf (List.getElem?_eq_getElem hj)
    rw [show t / 38 * 38 + t % 38 = t by omega] at hv
    have e1 : l.toArray[t / 38]! = l[t / 38]'hk := by simp [hk]
    rw [e1, fit32_eq hfi]
    have e2 : (fls l).toArray[t]! = (fcs (l[t / 38]'hk))[t % 38]'hj := by
      have hs : t < (fls l).toArray.size := by simp [hl]; omega
      rw [getElem!_pos (fls l).toArray t hs]
      have h3 : (fls l)[t]? = some ((fls l)[t]'(by simpa using hs)) := List.getElem?_eq_getElem _
      rw [hv] at h3
      injection h3 with h3
      rw [h3]
      rfl
    rw [e2, getElem!_pos (fcs (l[t / 38]'hk)) (t % 38) hj]
/-- the sort is told nothing but what it holds, and what is compared -/
theorem cmp_lays (blk off size : Nat) (w : World) : CmpLays Try.prog 28 #[] (fun f => fcs (fit32 f)) 38 cfS blk off size w :=
  fun _ _ _ _ x y => inorder_any (fit32 x) (fit32 y) _
theorem put_cells (cur : Array Value) (us : List Value) (n : Nat) (h : cur.toList.take n = us ∨ us.length ≤ cur.size) (hn : us.length = n) (hc : n ≤ cur.size) : (Sort.putCells id 0 us.toArray cur).size = cur.size ∧ (Sort.putCells id 0 us.toArray cur).toList.take n = us := by
  refine ⟨by simp [Sort.putCells], ?_⟩
  apply List.ext_getElem?
  intro k
  rw [List.getElem?_take]
  by_cases hk : k < n
  · rw [if_pos hk]
    have hkc : k < cur.size := by omega
    have hku : k < us.length := by omega
    simp only [Sort.putCells, Array.toList_mapIdx, List.getElem?_mapIdx, Array.getElem?_toList, Array.getElem?_eq_getElem hkc, Option.map_some]
    rw [if_pos ⟨Nat.zero_le _, by simpa using hku⟩, Nat.sub_zero, List.getElem?_eq_getElem hku]
    simp [getElem!_pos, hku]
  · rw [if_neg hk, List.getElem?_eq_none (by omega)]
theorem told_of {l : List Fo} {d' : Array Fo} (hd : l.Pairwise fun x y => x.pl ≠ y.pl) (hp : Sort.PermIn 0 l.toArray.size l.toArray d') (hs : Sort.SortedIn (ltOf cfS) 0 l.toArray.size d') : Tells l d'.toList := by
  have hsz : d'.size = l.length := by simpa using hp.1
  have hP : d'.toList.Perm l := by
    have := hp.2.2
    rw [show l.toArray.size = d'.size by simp [hsz], Array.extract_size] at this
    rw [show d'.size = l.toArray.size by simp [hsz], Array.extract_size] at this
    simpa using this
  have hne : d'.toList.Pairwise fun x y => x.pl ≠ y.pl := (hP.pairwise_iff (fun {x y} h => Ne.symm h)).2 hd
  refine ⟨hP, List.pairwise_iff_getElem.2 fun i j hi hj hij => ?_⟩
  have h1 := List.pairwise_iff_getElem.1 hne i j hi hj hij
  have hi' : i < d'.size := by simpa using hi
  have hj' : j < d'.size := by simpa using hj
  have h2 := hs i j (Nat.zero_le _) hij (by simp; omega)
  rw [lt_ltOf, getElem!_pos d' i hi', getElem!_pos d' j hj'] at h2
  have h2 := of_decide_eq_false h2
  have h1 : d'[i].pl ≠ d'[j].pl := h1
  show Lt d'[i] d'[j]
  unfold Lt at *
  omega
set_option maxHeartbeats 1000000 in
/-- a list of found records is sorted: it is told in its order -/
theorem sort_any {B g c n : Nat} {W : World} {l : List Fo} (hin : ∀ f ∈ l, FIn f) (hn : l.length = n) (h0 : 0 < n) (hm : n < 1000000) (hd : l.Pairwise fun x y => x.pl ≠ y.pl) (hown : W.ownsRow B 56 38 (.slice (some ⟨g, 0, none⟩) n c) n (fls l)) :
    Calls Try.prog 27 #[.slice (some ⟨g, 0, none⟩) n c, .func (.func 28) #[] #[]] W fun e W' =>
      e = .returned (.tuple #[]) ∧ ∃ L, Tells l L ∧ W'.ownsRow B 56 38 (.slice (some ⟨g, 0, none⟩) n c) n (fls L) ∧ W.grownBy W' (some g) := by
  obtain ⟨cur, hb, hh, hnc, hcm, hcs, htk⟩ : ∃ cur, B ≤ g ∧ W.heap[g]? = some (.cells cur 56 (0, 0)) ∧ n ≤ c ∧ c ≤ maxLen ∧ cur.size = c * 38 ∧ cur.toList.take (n * 38) = fls l := by
    rcases hown.2 with ⟨h, _⟩ | ⟨g', cap, cur, h1, h2, h3, h4, h5, h6, h7⟩
    · cases h
    · injection h1 with h1 _ h8
      injection h1 with h1
      injection h1 with h1
      subst h1; subst h8
      exact ⟨cur, h2, h3, h4, h5, h6, h7⟩
  have hl : (fls l).length = n * 38 := by rw [fls_length hin, hn]
  have hglt : g < W.heap.size := lt_of_block hh
  have hH : Sort.HoldsK (fun f => fcs (fit32 f)) 38 W g 0 l.toArray := by
    unfold Sort.HoldsK
    rw [flat_fls hin]
    intro j hj
    have hj' : j < (fls l).length := by simpa using hj
    rw [Nat.zero_add, frozen_of_row _ _ _ _ _ hh, cell_of_row W g j _ _ _ hh]
    refine ⟨?_, rfl⟩
    have h2 : (cur.toList.take (n * 38))[j]? = some ((fls l)[j]'hj') := by rw [htk]; exact List.getElem?_eq_getElem hj'
    rw [List.getElem?_take, if_pos (by omega)] at h2
    rw [getElem!_pos (fls l).toArray j hj]
    rw [← Array.getElem?_toList, h2]
    rfl
  have eg : ∀ args w, (callFunc 28 args).run Try.prog w = .ok (.enter 28 args) w := enters_of Try.func28 (by kernel_rfl) rfl
  have hcon := AnyQ.slices_SortFunc sort_laid 38 Try.isAgg56 Try.sizeOf56 (fun f => fcs (fit32 f)) (fun f => fcs_len (fit32_len f)) (fun f => fcs_one (fit32 f)) cfS swo 28 #[] g 0 c l.toArray W eg (cmp_lays g 0 _ W) hH hglt (by simp; omega)
  rw [show l.toArray.size = n by simp [hn]] at hcon
  change Calls Try.prog 27 _ _ _ at hcon
  refine hcon.mono ?_
  rintro e W' ⟨rfl, d', m, os, hp, hs, rfl⟩
  have hT : Tells l d'.toList := told_of hd (by simpa [hn] using hp) (by simpa [hn] using hs)
  have hin' : ∀ f ∈ d'.toList, FIn f := fun f hf => hin f (hT.1.mem_iff.1 hf)
  have hl' : (fls d'.toList).length = n * 38 := by rw [fls_length hin', hT.length, hn]
  have hfl : Sort.flatK (fun f => fcs (fit32 f)) 38 d' = (fls d'.toList).toArray := by
    have := flat_fls hin'
    simpa using this
  have hpc := put_cells cur (fls d'.toList) (n * 38) (.inr (by rw [hl']; have := Nat.mul_le_mul_right 38 hnc; omega)) hl' (by have := Nat.mul_le_mul_right 38 hnc; omega)
  have hblk : ∀ k : Nat, (sortWorldK (fun f => fcs (fit32 f)) 38 W g 0 m d' os).heap[k]? = ((W.heap.modify g (Sort.onCells (Sort.putCells id 0 (fls d'.toList).toArray))) ++ os)[k]? := fun k => by
    unfold sortWorldK Sort.putRowK
    rw [hfl]
    rfl
  refine ⟨rfl, d'.toList, hT, ⟨hl', .inr ⟨g, c, Sort.putCells id 0 (fls d'.toList).toArray cur, rfl, hb, ?_, hnc, hcm, by rw [hpc.1, hcs], hpc.2⟩⟩, ⟨rfl, rfl, rfl, ?_, fun k hk hne => ?_⟩⟩
  · rw [hblk, Array.getElem?_append_left (by simpa using hglt), Array.getElem?_modify, if_pos rfl, hh]
    rfl
  · unfold sortWorldK Sort.putRowK
    rw [Sort.size_grow]
    have : (Sort.putRow id (Sort.ahead W m) g 0 (Sort.flatK (fun f => fcs (fit32 f)) 38 d')).heap.size = W.heap.size := by
      rw [Sort.size_putRow]; rfl
    omega
  · rw [hblk, Array.getElem?_append_left (by simpa using hk), Array.getElem?_modify, if_neg (fun e => hne (by rw [e]))]
/-- at no element nothing turns -/
theorem ins_none (p : Option Addr) (cap : Nat) (fv : Value) (w : World) : Calls Try.prog 74 #[.slice p 0 cap, .int .i64 0, .int .i64 0, fv] w fun e w' => e = .returned (.tuple #[]) ∧ w' = w := by
  go_enter Try.func74, Try.ntmps74
  go_wp2
  refine wp_loop_rounds 1 ?_
  rw [rounds_succ]
  go_wp2
  go_end0
  exact ⟨rfl, rfl⟩
theorem pdq_none (p : Option Addr) (cap : Nat) (lim : Int) (fv : Value) (w : World) : Calls Try.prog 50 #[.slice p 0 cap, .int .i64 0, .int .i64 0, .int .i64 lim, fv] w fun e w' => e = .returned (.tuple #[]) ∧ w' = w := by
  have hi := fun W => ins_none p cap fv W
  go_enter Try.func50, Try.ntmps50
  go_wp2
  refine wp_loop_rounds 1 ?_
  rw [rounds_succ]
  go_wp2_with (go_at_call 74; refine (hi _).mono ?_; rintro e w' ⟨rfl, rfl⟩)
  (try simp only [Exit.inBlock, Exit.then])
  refine bodyPost_ret (results_none rfl _ _ _) rfl ?_
  exact ⟨rfl, rfl⟩
theorem sort_none (p : Option Addr) (cap : Nat) (fv : Value) (w : World) : Calls Try.prog 27 #[.slice p 0 cap, fv] w fun e w' => e = .returned (.tuple #[]) ∧ w' = w := by
  have hp := fun (lim : Int) W => pdq_none p cap lim fv W
  have hl : ∀ W, Calls Try.prog 51 #[.int .u64 0] W fun e w' => e = .returned (.int .i64 (Lib.bitLen 0 : Nat)) ∧ w' = W := fun W => by
    have h := Any.bits_Len (SlLaysF0.n15.bits (P := Try.prog) (ρ := sort_ren) { sort_laid with }) 0 W (by omega) (by omega)
    exact h
  go_enter Try.func27, Try.ntmps27
  go_wp2_with (first
    | (go_at_call 51; refine (hl _).mono ?_; rintro e w' ⟨rfl, rfl⟩)
    | (go_at_call 50; refine (hp _ _).mono ?_; rintro e w' ⟨rfl, rfl⟩))
  go_end0
  exact ⟨rfl, rfl⟩
end
end Go.Proofs.Ythgjlofebicpiaa

/-
  Package scan: All.
-/
namespace Go.Proofs.Ythgjlofebicpiaa
open Go.RowKit Geom Zone Dev Word Rec Scan
set_option linter.unusedVariables false

set_option maxRecDepth 100000 in
set_option maxHeartbeats 4000000 in
/-- All, of a device that has power -/
theorem all_any (ep sq : Int) {w : World} {d : Nat} {T : Nat → Prop} {D : Dv} (hO : DvOk D) (ho : Od D) (hd : D.down = false) (hT : ∀ k, w.heap.size ≤ k → T k) (hI : DevIs T w d D) :
    Calls Try.prog 10 #[dp d, gvS D.conv D.soft D.seq D.size D.opn, .int .i64 ep, .int .i64 sq] w fun e w' =>
      ∃ V L, e = .returned (.tuple #[V, .int .i64 0]) ∧ Tells (foundD D ep sq) L ∧ w'.ownsRow w.heap.size 56 38 V L.length (fls L) ∧ Below w.heap.size w w' := by
  have HF : Hid (∀ x ∈ foundD D ep sq, FIn x) := Lib.hid (found_in hO ho)
  have HN : Hid ((foundD D ep sq).length ≤ 20000) := Lib.hid (pls_count hO (Nat.le_refl _))
  have HP := (Lib.hid ((found_rise hO ep sq).imp fun h => Int.ne_of_lt h) : Hid ((foundD D ep sq).Pairwise fun x y => x.pl ≠ y.pl))
  obtain ⟨W, hW⟩ : ∃ W, W = ((w.alloc (.cells #[.int .i64 D.conv, .int .i64 D.soft, .int .i64 D.seq, .int .i64 D.size, .int .i64 D.opn] 23)).alloc (.cells #[.int .i64 ep] 3)).alloc (.cells #[.int .i64 sq] 3) := ⟨_, rfl⟩
  have hB : Below w.heap.size w W := by rw [hW]; exact (((Below.refl _ _).alloc (Nat.le_refl _) _).alloc (by simp) _).alloc (by simp; omega) _
  have hsz : W.heap.size = w.heap.size + 3 := by rw [hW]; simp
  have c0 : W.cell? ⟨w.heap.size + 1, 0, none⟩ = some (.int .i64 ep) := by
    have := (Box.new (w.alloc (.cells #[.int .i64 D.conv, .int .i64 D.soft, .int .i64 D.seq, .int .i64 D.size, .int .i64 D.opn] 23)) 3 [.int .i64 ep]).same (Below.heap_alloc _ (.cells #[.int .i64 sq] 3) _ (by simp))
    rw [show (w.alloc (.cells #[.int .i64 D.conv, .int .i64 D.soft, .int .i64 D.seq, .int .i64 D.size, .int .i64 D.opn] 23)).heap.size = w.heap.size + 1 by simp] at this
    rw [hW]
    exact this.cell 0
  have c1 : W.cell? ⟨w.heap.size + 2, 0, none⟩ = some (.int .i64 sq) := by
    have := Box.new ((w.alloc (.cells #[.int .i64 D.conv, .int .i64 D.soft, .int .i64 D.seq, .int .i64 D.size, .int .i64 D.opn] 23)).alloc (.cells #[.int .i64 ep] 3)) 3 [.int .i64 sq]
    rw [show ((w.alloc (.cells #[.int .i64 D.conv, .int .i64 D.soft, .int .i64 D.seq, .int .i64 D.size, .int .i64 D.opn] 23)).alloc (.cells #[.int .i64 ep] 3)).heap.size = w.heap.size + 2 by simp] at this
    rw [hW]
    exact this.cell 0
  have HR := Lib.hid (records_any ep sq (w.heap.size + 1) (w.heap.size + 1 + 1) hO ho hd (fun k hk => hT k (by omega)) (hI.below hB) c0 c1 (by omega) (by omega))
  have HB := Lib.hid hB
  have HW := Lib.hid hW
  clear hO ho hd hT hI hB hsz c0 c1 hW
  generalize foundD D ep sq = l at *
  go_enter Try.func10, Try.ntmps10
  go_wp2_with fail
  rw [← HW.out]
  clear HW
  refine HR.out.mono ?_
  rintro e w3 ⟨V, rfl, hown, hB3⟩
  have HB3 := Lib.hid (bthen HB.out hB3)
  have HO3 := Lib.hid (own_base0 hown HB.out.size)
  clear HR hown hB3
  rcases Nat.eq_zero_or_pos l.length with h0 | h0
  · obtain rfl : l = [] := List.eq_nil_of_length_eq_zero h0
    clear h0
    obtain ⟨A, c, rfl⟩ := own_slice HO3.out
    go_wp2_with fail
    refine (sort_none A c _ w3).mono ?_
    rintro e w4 ⟨rfl, rfl⟩
    go_wp2
    go_ret2
    exact ⟨_, [], rfl, Tells.nil, HO3.out, HB3.out⟩
  · obtain ⟨A, c, rfl⟩ := own_slice HO3.out
    obtain ⟨g, rfl, hgb, _⟩ := own_at HO3.out h0
    have HS := Lib.hid (sort_any HF.out rfl h0 (by have := HN.out; omega) HP.out HO3.out)
    have HG := Lib.hid hgb
    clear HO3 hgb h0
    go_wp2_with fail
    refine HS.out.mono ?_
    rintro e w4 ⟨rfl, L, hT, hown, hg⟩
    have HE : Hid (Tells l L ∧ w4.ownsRow w.heap.size 56 38 (.slice (some ⟨g, 0, none⟩) L.length c) L.length (fls L) ∧ Below w.heap.size w w4) := Lib.hid ⟨hT, by rw [hT.length]; exact hown, HB3.out.grown hg HB3.out.size fun k hk => by injection hk with hk; subst hk; exact HG.out⟩
    have hlen := hT.length
    clear hT hown hg HS
    go_wp2
    rw [← hlen]
    go_ret2
    exact ⟨_, L, rfl, HE.out⟩
set_option maxRecDepth 100000 in
set_option maxHeartbeats 4000000 in
/-- All, of a device that is down -/
theorem all_down (ep sq : Int) {w : World} {d : Nat} {T : Nat → Prop} {D : Dv} (hd : D.down = true) (hI : DevIs T w d D) :
    Calls Try.prog 10 #[dp d, gvS D.conv D.soft D.seq D.size D.opn, .int .i64 ep, .int .i64 sq] w fun e w' => e = .returned (.tuple #[.slice none 0 0, .int .i64 2]) ∧ Below w.heap.size w w' := by
  have HDn := Lib.hid fun (W : World) (h : DevIs T W d D) => show Calls Try.prog 47 #[dp d] W (fun x w' => x = .returned (.bool true) ∧ W = w') from by
    obtain ⟨gz, cz, lb, cv, nb, hD, _⟩ := h
    rw [hd] at hD
    exact down_any hD
  have HRc := Lib.hid fun (W : World) (h : DevIs T W d D) (f : Value) => show Calls Try.prog 25 #[dp d, gvS D.conv D.soft D.seq D.size D.opn, f] W (fun e w' => e = .returned (.tuple #[.slice none 0 0, .int .i64 2]) ∧ Below W.heap.size W w') from by
    go_enter Try.func25, Try.ntmps25
    go_wp2_with (first
      | ((with_reducible refine wpList_box_box _ (o := ⟨some 4, .box _ _, _, _, _, _⟩) rfl _ _ rfl (gcS D.conv D.soft D.seq D.size D.opn) rfl ?_); intro w1 x0 hB1 hs1; clear hs1)
      | fail)
    have HI1 := Lib.hid (h.below hB1)
    have HB1 := Lib.hid hB1
    clear x0 hB1
    refine (HDn.out _ HI1.out).mono ?_
    rintro e w1' ⟨rfl, rfl⟩
    go_wp2_with fail
    go_ret2
    exact ⟨rfl, HB1.out⟩
  obtain ⟨W, hW⟩ : ∃ W, W = ((w.alloc (.cells #[.int .i64 D.conv, .int .i64 D.soft, .int .i64 D.seq, .int .i64 D.size, .int .i64 D.opn] 23)).alloc (.cells #[.int .i64 ep] 3)).alloc (.cells #[.int .i64 sq] 3) := ⟨_, rfl⟩
  have hB : Below w.heap.size w W := by rw [hW]; exact (((Below.refl _ _).alloc (Nat.le_refl _) _).alloc (by simp) _).alloc (by simp; omega) _
  have HI := Lib.hid (hI.below hB)
  have HB := Lib.hid hB
  have HW := Lib.hid hW
  clear hI hB hW hd HDn
  go_enter Try.func10, Try.ntmps10
  go_wp2_with fail
  rw [← HW.out]
  clear HW
  refine (HRc.out W HI.out _).mono ?_
  rintro e w3 ⟨rfl, hB3⟩
  have HB3 := Lib.hid (bthen HB.out hB3)
  clear HRc hB3
  go_wp2_with fail
  refine (sort_none none 0 _ w3).mono ?_
  rintro e w4 ⟨rfl, rfl⟩
  go_wp2
  go_ret2
  exact ⟨rfl, HB3.out⟩
end Go.Proofs.Ythgjlofebicpiaa

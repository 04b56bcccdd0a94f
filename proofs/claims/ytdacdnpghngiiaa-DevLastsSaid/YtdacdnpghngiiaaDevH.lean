/-
  Package dev: leaves: the closure that counts, made; what a crash does with each cached sector.
-/
import Derived.Test.YtdacdnpghngiiaaDevG
import Derived.Deep.RegionHeld3
namespace Go.Proofs.Ytdacdnpghngiiaa
open Go.RowKit Geom Zone Dev
set_option linter.unusedVariables false

theorem three_new (w : World) (A B C : Obj) : (((w.alloc A).alloc B).alloc C).drew.heap[w.heap.size]? = some A ∧ (((w.alloc A).alloc B).alloc C).drew.heap[w.heap.size + 1]? = some B ∧ (((w.alloc A).alloc B).alloc C).drew.heap[w.heap.size + 1 + 1]? = some C := by
  refine ⟨?_, ?_, ?_⟩
  · exact (Below.heap_alloc _ C _ (by simp; omega)).trans ((Below.heap_alloc _ B _ (by simp)).trans (MapKept.heap_alloc w A).1)
  · have := (MapKept.heap_alloc (w.alloc A) B).1
    rw [show (w.alloc A).heap.size = w.heap.size + 1 by simp] at this
    exact (Below.heap_alloc _ C _ (by simp)).trans this
  · have := (MapKept.heap_alloc ((w.alloc A).alloc B) C).1
    rw [show ((w.alloc A).alloc B).heap.size = w.heap.size + 1 + 1 by simp] at this
    exact this
theorem three_below (w : World) (A B C : Obj) : Below w.heap.size w (((w.alloc A).alloc B).alloc C).drew :=
  ((((Below.refl w.heap.size w).alloc (Nat.le_refl _) _).alloc (by simp) _).alloc (by simp; omega) _).drew
theorem elemI : Elem Try.prog 26 3 (.int .i64 0) 1 8 := .of Try.underlying26 (by kernel_rfl) rfl (by omega)
section
variable {w : World} {d : Nat} {conv soft seq size opn : Int} {zv : Value} {lb : Nat} {cv : Value} {nb : Nat} {down : Bool} {armed ill : Int}
set_option maxRecDepth 100000 in
set_option maxHeartbeats 1000000 in
theorem leaves_any (zA : Option Addr) (n cz : Nat) (hn : n ≤ 1000) (hn0 : 0 < n) (keepA : Option Addr) (kn kc : Nat) (keep : List Int) (soft0 tear : Int) (hD : DBlk w d conv soft seq size opn (.slice zA n cz) lb cv nb down armed ill)
    (hkr : Rd w w.heap.size keepA (ints keep)) (hkl : keep.length = kn) (hk64 : ∀ x ∈ keep, W64 x) :
    Calls Try.prog 39 #[dp d, .agg #[.slice keepA kn kc, .int .u64 soft0, .int .i64 tear]] w fun e w' =>
      ∃ bd bs bw bk gk, e = .returned (.func (.func 67) #[] #[.pointer (some ⟨bd, 0, none⟩), .pointer (some ⟨bs, 0, none⟩), .pointer (some ⟨bw, 0, none⟩), .pointer (some ⟨bk, 0, none⟩)]) ∧
        LvI w' d bd bs bw bk gk keepA kn kc keep soft0 tear n soft0 (List.replicate n 0) ∧ Below w.heap.size w w' ∧ w.heap.size ≤ bd ∧ w.heap.size ≤ bs ∧ w.heap.size ≤ bw ∧ w.heap.size ≤ bk ∧ w.heap.size ≤ gk := by
  obtain ⟨Z, hZ, hmk⟩ : ∃ Z : Array Value, Z.toList = ints (List.replicate n 0) ∧ ∀ w' : World, (Instr.makeSlice 26 (.int .i64 (n : Int)) (.int .i64 (n : Int))).run Try.prog w' = .ok (.slice (some ⟨w'.heap.size, 0, none⟩) n n) (w'.alloc (.cells Z 3)) := by
    obtain ⟨ht, i, hi, hz, hsize, hby, hzs, hsz⟩ := elemI
    refine ⟨madeCells #[.int .i64 0] (n * 1), ?_, fun w' => ?_⟩
    · rw [toList_madeCells_one]; simp [ints]
    · have := run_make (P := Try.prog) w' 26 3 i _ ht hi hz .i64 .i64 (n : Int) (n : Int) (by omega) (by omega) (by rw [hby]; omega) (by omega)
      rw [hsize] at this
      simpa [Value.cells] using this
  obtain ⟨w1, hw1⟩ : ∃ w1, w1 = (w.alloc (.cells #[dp d] 32)).alloc (.cells #[.slice keepA kn kc, .int .u64 soft0, .int .i64 tear] 29) := ⟨_, rfl⟩
  have hB1 : Below w.heap.size w w1 := by rw [hw1]; exact ((Below.refl _ _).alloc (Nat.le_refl _) _).alloc (by simp) _
  have hs1 : w1.heap.size = w.heap.size + 2 := by rw [hw1]; simp
  have hbd : Box w1 w.heap.size 32 [dp d] := by
    rw [hw1]; exact (Box.new w _ [dp d]).same (Below.heap_alloc _ _ _ (by simp))
  have hbw : Box w1 (w.heap.size + 1) 29 [.slice keepA kn kc, .int .u64 soft0, .int .i64 tear] := by
    rw [hw1]
    have := Box.new (w.alloc (.cells #[dp d] 32)) 29 [.slice keepA kn kc, .int .u64 soft0, .int .i64 tear]
    simpa using this
  have hD1 : DBlk w1 d conv soft seq size opn (.slice zA n cz) lb cv nb down armed ill := hD.same (hB1.block d hD.lt)
  have HFin : ∀ (w' : World) (bs bk gk : Nat), Below w1.heap.size w1 w' → w1.heap.size ≤ bs → w1.heap.size ≤ bk → w1.heap.size ≤ gk → w'.heap[bs]? = some (.cells #[.int .u64 soft0] 27 (0, 0)) → w'.heap[bk]? = some (.cells #[.slice (some ⟨gk, 0, none⟩) n n] 26 (0, 0)) → w'.heap[gk]? = some (.cells Z 3 (0, 0)) →
      LvI w' d w.heap.size bs (w.heap.size + 1) bk gk keepA kn kc keep soft0 tear n soft0 (List.replicate n 0) ∧ Below w.heap.size w w' := by
    intro w' bs bk gk hb l1 l2 l3 e1 e2 e3
    have hB2 : Below w.heap.size w w' := bthen hB1 hb
    refine ⟨⟨hbd.same (hb.block _ hbd.lt), e1, hbw.same (hb.block _ hbw.lt), e2, ?_, (hkr.below hB2).more hB2.size, hkl, hk64, fun x hx => by rw [List.eq_of_mem_replicate hx]; omega, ?_⟩, hB2⟩
    · refine ⟨by simp, .inr ⟨gk, n, Z, rfl, Nat.zero_le _, e3, Nat.le_refl _, by unfold maxLen; omega, ?_, ?_⟩⟩
      · have := congrArg List.length hZ
        simpa using this
      · rw [hZ, List.take_of_length_le (by simp)]
    · intro ad ha hne
      obtain ⟨ad', h1, h2, _⟩ := hkr hne
      rw [ha] at h1
      injection h1 with h1
      subst h1
      omega
  have HFin := Lib.hid HFin
  have cb : w1.cell? ⟨w.heap.size, 0, none⟩ = some (dp d) := hbd.cell 0
  have cw : w1.cell? ⟨w.heap.size + 1, 1, none⟩ = some (.int .u64 soft0) := hbw.cell 1
  have c5 := hD1.mem.1
  have hd1 := hD1.lt
  have SO := Lib.hid fun (w' : World) (h : Below w1.heap.size w1 w') => (⟨(h.cell (p := ⟨w.heap.size, 0, none⟩) hbd.lt).trans cb, (h.cell (p := ⟨w.heap.size + 1, 1, none⟩) hbw.lt).trans cw, (h.cell (p := ⟨d, 5, none⟩) hd1).trans c5⟩ :
    w'.cell? ⟨w.heap.size, 0, none⟩ = some (dp d) ∧ w'.cell? ⟨w.heap.size + 1, 1, none⟩ = some (.int .u64 soft0) ∧ w'.cell? ⟨d, 5, none⟩ = some (.slice zA n cz))
  have hzl : n ≤ maxLen := by unfold maxLen; omega
  unfold maxLen at hzl
  have HS1 := Lib.hid hs1
  clear hbd hbw hD hD1 hkr hkl hk64 hB1 hZ
  go_enter Try.func39, Try.ntmps39
  go_wp2_with fail
  rw [← hw1]
  have HW1 := Lib.hid hw1
  clear hw1 hs1
  go_region_held3 (fun w' => w'.cell? ⟨w.heap.size, 0, none⟩ = some (dp d) ∧ w'.cell? ⟨w.heap.size + 1, 1, none⟩ = some (.int .u64 soft0) ∧ w'.cell? ⟨d, 5, none⟩ = some (.slice zA n cz))
    ((refine SO.out _ ?_; repeat (first | exact Below.refl _ _ | refine Below.drew ?_ | refine Below.alloc ?_ (by first | omega | (simp; done) | (simp; omega)) _ | refine Below.setCell ?_ (by first | omega | (simp; done) | (simp; omega)) _)))
    (fail)
  all_goals
    go_wp2
    go_ret
    have hs1 := HS1.out
    first
      | exact ⟨_, _, _, _, _, rfl, (HFin.out _ (w1.heap.size) (w1.heap.size + 1) (w1.heap.size + 1 + 1) (three_below w1 _ _ _) (by omega) (by omega) (by omega) (three_new w1 _ _ _).1 (three_new w1 _ _ _).2.1 (three_new w1 _ _ _).2.2).1, (HFin.out _ (w1.heap.size) (w1.heap.size + 1) (w1.heap.size + 1 + 1) (three_below w1 _ _ _) (by omega) (by omega) (by omega) (three_new w1 _ _ _).1 (three_new w1 _ _ _).2.1 (three_new w1 _ _ _).2.2).2, by omega, by omega, by omega, by omega, by omega⟩
      | exact ⟨_, _, _, _, _, rfl, (HFin.out _ (w1.heap.size) (w1.heap.size + 1 + 1) (w1.heap.size + 1) (three_below w1 _ _ _) (by omega) (by omega) (by omega) (three_new w1 _ _ _).1 (three_new w1 _ _ _).2.2 (three_new w1 _ _ _).2.1).1, (HFin.out _ (w1.heap.size) (w1.heap.size + 1 + 1) (w1.heap.size + 1) (three_below w1 _ _ _) (by omega) (by omega) (by omega) (three_new w1 _ _ _).1 (three_new w1 _ _ _).2.2 (three_new w1 _ _ _).2.1).2, by omega, by omega, by omega, by omega, by omega⟩
      | exact ⟨_, _, _, _, _, rfl, (HFin.out _ (w1.heap.size + 1) (w1.heap.size) (w1.heap.size + 1 + 1) (three_below w1 _ _ _) (by omega) (by omega) (by omega) (three_new w1 _ _ _).2.1 (three_new w1 _ _ _).1 (three_new w1 _ _ _).2.2).1, (HFin.out _ (w1.heap.size + 1) (w1.heap.size) (w1.heap.size + 1 + 1) (three_below w1 _ _ _) (by omega) (by omega) (by omega) (three_new w1 _ _ _).2.1 (three_new w1 _ _ _).1 (three_new w1 _ _ _).2.2).2, by omega, by omega, by omega, by omega, by omega⟩
      | exact ⟨_, _, _, _, _, rfl, (HFin.out _ (w1.heap.size + 1) (w1.heap.size + 1 + 1) (w1.heap.size) (three_below w1 _ _ _) (by omega) (by omega) (by omega) (three_new w1 _ _ _).2.1 (three_new w1 _ _ _).2.2 (three_new w1 _ _ _).1).1, (HFin.out _ (w1.heap.size + 1) (w1.heap.size + 1 + 1) (w1.heap.size) (three_below w1 _ _ _) (by omega) (by omega) (by omega) (three_new w1 _ _ _).2.1 (three_new w1 _ _ _).2.2 (three_new w1 _ _ _).1).2, by omega, by omega, by omega, by omega, by omega⟩
      | exact ⟨_, _, _, _, _, rfl, (HFin.out _ (w1.heap.size + 1 + 1) (w1.heap.size) (w1.heap.size + 1) (three_below w1 _ _ _) (by omega) (by omega) (by omega) (three_new w1 _ _ _).2.2 (three_new w1 _ _ _).1 (three_new w1 _ _ _).2.1).1, (HFin.out _ (w1.heap.size + 1 + 1) (w1.heap.size) (w1.heap.size + 1) (three_below w1 _ _ _) (by omega) (by omega) (by omega) (three_new w1 _ _ _).2.2 (three_new w1 _ _ _).1 (three_new w1 _ _ _).2.1).2, by omega, by omega, by omega, by omega, by omega⟩
      | exact ⟨_, _, _, _, _, rfl, (HFin.out _ (w1.heap.size + 1 + 1) (w1.heap.size + 1) (w1.heap.size) (three_below w1 _ _ _) (by omega) (by omega) (by omega) (three_new w1 _ _ _).2.2 (three_new w1 _ _ _).2.1 (three_new w1 _ _ _).1).1, (HFin.out _ (w1.heap.size + 1 + 1) (w1.heap.size + 1) (w1.heap.size) (three_below w1 _ _ _) (by omega) (by omega) (by omega) (three_new w1 _ _ _).2.2 (three_new w1 _ _ _).2.1 (three_new w1 _ _ _).1).2, by omega, by omega, by omega, by omega, by omega⟩
end
end Go.Proofs.Ytdacdnpghngiiaa

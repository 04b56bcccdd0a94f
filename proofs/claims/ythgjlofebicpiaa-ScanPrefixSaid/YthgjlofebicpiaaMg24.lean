/-
  DevG DevH DevI
-/
import Derived.Test.YthgjlofebicpiaaMg21
import Derived.Test.YthgjlofebicpiaaMg23
import Derived.Deep.RegionHeld3
/-
  Package dev: cut: a zone's pointer is set back to a sector that is lost.
-/
namespace Go.Proofs.Ythgjlofebicpiaa
open Go.RowKit Geom Zone Dev
set_option linter.unusedVariables false

namespace Dev
def cutL (L : List Z) (zone off : Int) : List Z :=
  if (zat L zone).1 = 4 ∨ (zat L zone).2 ≤ off then L else if off = 0 then L.set zone.toNat (0, 0) else L.set zone.toNat (2, off)
end Dev

section
variable {w : World} {d : Nat} {conv soft seq size opn : Int} {zv : Value} {lb : Nat} {cv : Value} {nb : Nat} {down : Bool} {armed ill : Int}
set_option maxRecDepth 100000 in
set_option maxHeartbeats 1000000 in
theorem dvcut_any (gz n cz : Nat) (L : List Z) (zone off : Int) (h0 : 0 ≤ zone) (h1 : zone < n) (hn : n ≤ 1000) (ho0 : 0 ≤ off) (ho1 : off ≤ 65536) (hD : DBlk w d conv soft seq size opn (.slice (some ⟨gz, 0, none⟩) n cz) lb cv nb down armed ill)
    (hown : w.ownsRow 0 66 2 (.slice (some ⟨gz, 0, none⟩) n cz) n (zc L)) (hL : L.length = n) :
    Calls Try.prog 35 #[dp d, .agg #[.int .i64 zone, .int .i64 off]] w fun e w' =>
      e = .returned (.tuple #[]) ∧ w'.ownsRow 0 66 2 (.slice (some ⟨gz, 0, none⟩) n cz) n (zc (cutL L zone off)) ∧ Fr (fun k => k = gz) w w' := by
  obtain ⟨k, rfl⟩ : ∃ k : Nat, zone = (k : Int) := ⟨zone.toNat, by omega⟩
  have hk : k < n := by omega
  have hz := getD_of (L := L) (k := k) (d := (0, 0)) (by omega)
  have hza : zat L (k : Int) = L.getD k (0, 0) := by simp [zat]
  have hm : cutL L (k : Int) off = if (L.getD k (0, 0)).1 = 4 ∨ (L.getD k (0, 0)).2 ≤ off then L else if off = 0 then L.set k (0, 0) else L.set k (2, off) := by
    unfold cutL; rw [hza]; rfl
  rw [hm]
  generalize L.getD k (0, 0) = z at hz ⊢
  have hz0 := (Rd.own hown).cell0 (zc_get0 hz)
  have hz1 := (Rd.own hown).cell0 (zc_get1 hz)
  have hgl := (hown.lt gz rfl).2
  have hsame : ∀ x, x < w.heap.size → (w.alloc (.cells #[.int .i64 (k : Int), .int .i64 off] 68)).heap[x]? = w.heap[x]? := fun x hx => Below.heap_alloc _ _ _ hx
  obtain ⟨a0, a1⟩ := new_cells w (.int .i64 (k : Int)) (.int .i64 off) 68 (0, 0)
  have HF := Lib.hid ((Fr.refl (T := fun x => x = gz) w).alloc (.cells #[.int .i64 (k : Int), .int .i64 off] 68))
  have hown1 := hown.alloc (.cells #[.int .i64 (k : Int), .int .i64 off] 68)
  have HOW := Lib.hid hown1
  have hD1 : DBlk (w.alloc (.cells #[.int .i64 (k : Int), .int .i64 off] 68)) d conv soft seq size opn (.slice (some ⟨gz, 0, none⟩) n cz) lb cv nb down armed ill := hD.same (hsame _ hD.lt)
  have c5 := hD1.mem.1
  have d0 : (w.alloc (.cells #[.int .i64 (k : Int), .int .i64 off] 68)).cell? ⟨gz, k * 2, none⟩ = some (.int .i64 z.1) := (World.cell?_of_block (hsame gz hgl)).trans hz0
  have d1 : (w.alloc (.cells #[.int .i64 (k : Int), .int .i64 off] 68)).cell? ⟨gz, k * 2 + 1, none⟩ = some (.int .i64 z.2) := (World.cell?_of_block (hsame gz hgl)).trans hz1
  have hkI : (k : Int) < (n : Int) := by omega
  have HH := Lib.hid (And.intro hL (And.intro h1 hm))
  clear hown hown1 hD hD1 hz hza hm hz0 hz1 hsame hL h1 hgl
  by_cases hs : z.1 = 4
  · have hq : (z.1 == 4) = true := by simpa using hs
    rw [if_pos (.inl hs)]
    clear hs
    go_enter Try.func35, Try.ntmps35
    go_wp2_with fail
    generalize World.alloc _ _ = w1 at *
    generalize w.heap.size = b0 at *
    go_quiet (fail)
    go_wp2_with fail
    go_quiet (fail)
    go_wp2_with fail
    first
      | (go_end0; exact ⟨rfl, HOW.out, (HF.out.drewN _).drewN _⟩)
      | exact bodyPost_ret (v := .tuple #[]) (by simp [results, Try.results35, go_sem]) rfl ⟨rfl, HOW.out, (HF.out.drewN _).drewN _⟩
  have hq : (z.1 == 4) = false := by simpa using hs
  by_cases hp : z.2 ≤ off
  · have hq2 : decide (z.2 ≤ off) = true := decide_eq_true hp
    rw [if_pos (.inr hp)]
    clear hs hp
    go_enter Try.func35, Try.ntmps35
    go_wp2_with fail
    generalize World.alloc _ _ = w1 at *
    generalize w.heap.size = b0 at *
    go_quiet (fail)
    go_wp2_with fail
    go_quiet (fail)
    go_wp2_with fail
    first
      | (go_end0; exact ⟨rfl, HOW.out, (HF.out.drewN _).drewN _⟩)
      | exact bodyPost_ret (v := .tuple #[]) (by simp [results, Try.results35, go_sem]) rfl ⟨rfl, HOW.out, (HF.out.drewN _).drewN _⟩
  have hq2 : decide (z.2 ≤ off) = false := decide_eq_false hp
  rw [if_neg (fun h => h.elim hs hp)]
  clear hs hp
  by_cases hoz : off = 0
  · subst hoz
    rw [if_pos rfl]
    go_enter Try.func35, Try.ntmps35
    go_wp2_with fail
    generalize World.alloc _ _ = w1 at *
    generalize w.heap.size = b0 at *
    go_quiet (fail)
    go_wp2_with fail
    go_quiet (fail)
    go_wp2_with (first | ((with_reducible refine wpList_store_zone _ (o := ⟨none, .store _ _ _, _, _, _, _⟩) rfl _ _ _ rfl _ gz n cz k _ L (0, 0) (own_drewN HOW.out _) hk rfl rfl rfl ?_); intro w5 hown5 hg5; have Hown5 := Lib.hid hown5; have Hg5 := Lib.hid hg5; clear hown5 hg5) | ((with_reducible refine wpList_store_zone _ (o := ⟨none, .store _ _ _, _, _, _, _⟩) rfl _ _ _ rfl _ gz n cz k _ L (0, 0) (own_drewN (own_drewN HOW.out _) _) hk rfl rfl rfl ?_); intro w5 hown5 hg5; have Hown5 := Lib.hid hown5; have Hg5 := Lib.hid hg5; clear hown5 hg5))
    try go_frame
    go_end0
    first
      | exact ⟨rfl, Hown5.out, (HF.out.drewN _).trans (Fr.of_grown Hg5.out (fun x e => by injection e with e; exact e.symm))⟩
      | exact ⟨rfl, Hown5.out, ((HF.out.drewN _).drewN _).trans (Fr.of_grown Hg5.out (fun x e => by injection e with e; exact e.symm))⟩
  · have hq3 : (off == 0) = false := by simpa using hoz
    rw [if_neg hoz]
    clear hoz
    go_enter Try.func35, Try.ntmps35
    go_wp2_with fail
    generalize World.alloc _ _ = w1 at *
    generalize w.heap.size = b0 at *
    go_quiet (fail)
    go_wp2_with fail
    go_quiet (fail)
    go_wp2_with (first | ((with_reducible refine wpList_store_zone _ (o := ⟨none, .store _ _ _, _, _, _, _⟩) rfl _ _ _ rfl _ gz n cz k _ L (2, off) (own_drewN HOW.out _) hk rfl rfl rfl ?_); intro w5 hown5 hg5; have Hown5 := Lib.hid hown5; have Hg5 := Lib.hid hg5; clear hown5 hg5) | ((with_reducible refine wpList_store_zone _ (o := ⟨none, .store _ _ _, _, _, _, _⟩) rfl _ _ _ rfl _ gz n cz k _ L (2, off) (own_drewN (own_drewN HOW.out _) _) hk rfl rfl rfl ?_); intro w5 hown5 hg5; have Hown5 := Lib.hid hown5; have Hg5 := Lib.hid hg5; clear hown5 hg5))
    try go_frame
    go_end0
    first
      | exact ⟨rfl, Hown5.out, (HF.out.drewN _).trans (Fr.of_grown Hg5.out (fun x e => by injection e with e; exact e.symm))⟩
      | exact ⟨rfl, Hown5.out, ((HF.out.drewN _).drewN _).trans (Fr.of_grown Hg5.out (fun x e => by injection e with e; exact e.symm))⟩
end
end Go.Proofs.Ythgjlofebicpiaa

/-
  Package dev: leaves: the closure that counts, made; what a crash does with each cached sector.
-/
namespace Go.Proofs.Ythgjlofebicpiaa
open Go.RowKit Geom Zone Dev
set_option linter.unusedVariables false

theorem three_dv (w : World) (A B C : Obj) : (((w.alloc A).alloc B).alloc C).drew.heap[w.heap.size]? = some A ∧ (((w.alloc A).alloc B).alloc C).drew.heap[w.heap.size + 1]? = some B ∧ (((w.alloc A).alloc B).alloc C).drew.heap[w.heap.size + 1 + 1]? = some C := by
  refine ⟨?_, ?_, ?_⟩
  · exact (Below.heap_alloc _ C _ (by simp; omega)).trans ((Below.heap_alloc _ B _ (by simp)).trans (MapKept.heap_alloc w A).1)
  · have := (MapKept.heap_alloc (w.alloc A) B).1
    rw [show (w.alloc A).heap.size = w.heap.size + 1 by simp] at this
    exact (Below.heap_alloc _ C _ (by simp)).trans this
  · have := (MapKept.heap_alloc ((w.alloc A).alloc B) C).1
    rw [show ((w.alloc A).alloc B).heap.size = w.heap.size + 1 + 1 by simp] at this
    exact this
theorem three_below (w : World) (A B C : Obj) : Below w.heap.size w (((w.alloc A).alloc B).alloc C).drew :=
  ((((Below.refl w.heap.size w).alloc (Nat.le_refl _) _).alloc (by simp) _).alloc (by simp; omega) _).drew
theorem elemDv : Elem Try.prog 43 3 (.int .i64 0) 1 8 := .of Try.underlying43 (by kernel_rfl) rfl (by omega)
section
variable {w : World} {d : Nat} {conv soft seq size opn : Int} {zv : Value} {lb : Nat} {cv : Value} {nb : Nat} {down : Bool} {armed ill : Int}
set_option maxRecDepth 100000 in
set_option maxHeartbeats 1000000 in
theorem leaves_any (zA : Option Addr) (n cz : Nat) (hn : n ≤ 1000) (hn0 : 0 < n) (keepA : Option Addr) (kn kc : Nat) (keep : List Int) (soft0 tear : Int) (hD : DBlk w d conv soft seq size opn (.slice zA n cz) lb cv nb down armed ill)
    (hkr : Rd w w.heap.size keepA (ints keep)) (hkl : keep.length = kn) (hk64 : ∀ x ∈ keep, W64 x) :
    Calls Try.prog 32 #[dp d, .agg #[.slice keepA kn kc, .int .u64 soft0, .int .i64 tear]] w fun e w' =>
      ∃ bd bs bw bk gk, e = .returned (.func (.func 59) #[] #[.pointer (some ⟨bd, 0, none⟩), .pointer (some ⟨bs, 0, none⟩), .pointer (some ⟨bw, 0, none⟩), .pointer (some ⟨bk, 0, none⟩)]) ∧
        LvI w' d bd bs bw bk gk keepA kn kc keep soft0 tear n soft0 (List.replicate n 0) ∧ Below w.heap.size w w' ∧ w.heap.size ≤ bd ∧ w.heap.size ≤ bs ∧ w.heap.size ≤ bw ∧ w.heap.size ≤ bk ∧ w.heap.size ≤ gk := by
  obtain ⟨Z, hZ, hmk⟩ : ∃ Z : Array Value, Z.toList = ints (List.replicate n 0) ∧ ∀ w' : World, (Instr.makeSlice 43 (.int .i64 (n : Int)) (.int .i64 (n : Int))).run Try.prog w' = .ok (.slice (some ⟨w'.heap.size, 0, none⟩) n n) (w'.alloc (.cells Z 3)) := by
    obtain ⟨ht, i, hi, hz, hsize, hby, hzs, hsz⟩ := elemDv
    refine ⟨madeCells #[.int .i64 0] (n * 1), ?_, fun w' => ?_⟩
    · rw [toList_madeCells_one]; simp [ints]
    · have := run_make (P := Try.prog) w' 43 3 i _ ht hi hz .i64 .i64 (n : Int) (n : Int) (by omega) (by omega) (by rw [hby]; omega) (by omega)
      rw [hsize] at this
      simpa [Value.cells] using this
  obtain ⟨w1, hw1⟩ : ∃ w1, w1 = (w.alloc (.cells #[dp d] 27)).alloc (.cells #[.slice keepA kn kc, .int .u64 soft0, .int .i64 tear] 46) := ⟨_, rfl⟩
  have hB1 : Below w.heap.size w w1 := by rw [hw1]; exact ((Below.refl _ _).alloc (Nat.le_refl _) _).alloc (by simp) _
  have hs1 : w1.heap.size = w.heap.size + 2 := by rw [hw1]; simp
  have hbd : Box w1 w.heap.size 27 [dp d] := by
    rw [hw1]; exact (Box.new w _ [dp d]).same (Below.heap_alloc _ _ _ (by simp))
  have hbw : Box w1 (w.heap.size + 1) 46 [.slice keepA kn kc, .int .u64 soft0, .int .i64 tear] := by
    rw [hw1]
    have := Box.new (w.alloc (.cells #[dp d] 27)) 46 [.slice keepA kn kc, .int .u64 soft0, .int .i64 tear]
    simpa using this
  have hD1 : DBlk w1 d conv soft seq size opn (.slice zA n cz) lb cv nb down armed ill := hD.same (hB1.block d hD.lt)
  have HFin : ∀ (w' : World) (bs bk gk : Nat), Below w1.heap.size w1 w' → w1.heap.size ≤ bs → w1.heap.size ≤ bk → w1.heap.size ≤ gk → w'.heap[bs]? = some (.cells #[.int .u64 soft0] 44 (0, 0)) → w'.heap[bk]? = some (.cells #[.slice (some ⟨gk, 0, none⟩) n n] 43 (0, 0)) → w'.heap[gk]? = some (.cells Z 3 (0, 0)) →
      LvI w' d w.heap.size bs (w.heap.size + 1) bk gk keepA kn kc keep soft0 tear n soft0 (List.replicate n 0) ∧ Below w.heap.size w w' := by
    intro w' bs bk gk hb l1 l2 l3 e1 e2 e3
    have hB2 : Below w.heap.size w w' := bthen hB1 hb
    refine ⟨⟨hbd.same (hb.block _ hbd.lt), e1, hbw.same (hb.block _ hbw.lt), e2, ?_, (hkr.below hB2).more hB2.size, hkl, hk64, fun x hx => by rw [List.eq_of_mem_replicate hx]; omega, ?_⟩, hB2⟩
    · refine ⟨by simp, .inr ⟨gk, n, Z, rfl, Nat.zero_le _, e3, Nat.le_refl _, by unfold maxLen; omega, ?_, ?_⟩⟩
      · have := congrArg List.length hZ
        simpa using this
      · rw [hZ, List.take_of_length_le (by simp)]
    · intro ad ha hne
      obtain ⟨ad', h1, h2, _⟩ := hkr hne
      rw [ha] at h1
      injection h1 with h1
      subst h1
      omega
  have HFin := Lib.hid HFin
  have cb : w1.cell? ⟨w.heap.size, 0, none⟩ = some (dp d) := hbd.cell 0
  have cw : w1.cell? ⟨w.heap.size + 1, 1, none⟩ = some (.int .u64 soft0) := hbw.cell 1
  have c5 := hD1.mem.1
  have hd1 := hD1.lt
  have SO := Lib.hid fun (w' : World) (h : Below w1.heap.size w1 w') => (⟨(h.cell (p := ⟨w.heap.size, 0, none⟩) hbd.lt).trans cb, (h.cell (p := ⟨w.heap.size + 1, 1, none⟩) hbw.lt).trans cw, (h.cell (p := ⟨d, 5, none⟩) hd1).trans c5⟩ :
    w'.cell? ⟨w.heap.size, 0, none⟩ = some (dp d) ∧ w'.cell? ⟨w.heap.size + 1, 1, none⟩ = some (.int .u64 soft0) ∧ w'.cell? ⟨d, 5, none⟩ = some (.slice zA n cz))
  have hzl : n ≤ maxLen := by unfold maxLen; omega
  unfold maxLen at hzl
  have HS1 := Lib.hid hs1
  clear hbd hbw hD hD1 hkr hkl hk64 hB1 hZ
  go_enter Try.func32, Try.ntmps32
  go_wp2_with fail
  rw [← hw1]
  have HW1 := Lib.hid hw1
  clear hw1 hs1
  go_region_held3 (fun w' => w'.cell? ⟨w.heap.size, 0, none⟩ = some (dp d) ∧ w'.cell? ⟨w.heap.size + 1, 1, none⟩ = some (.int .u64 soft0) ∧ w'.cell? ⟨d, 5, none⟩ = some (.slice zA n cz))
    ((refine SO.out _ ?_; repeat (first | exact Below.refl _ _ | refine Below.drew ?_ | refine Below.alloc ?_ (by first | omega | (simp; done) | (simp; omega)) _ | refine Below.setCell ?_ (by first | omega | (simp; done) | (simp; omega)) _)))
    (fail)
  all_goals
    go_wp2
    go_ret
    have hs1 := HS1.out
    first
      | exact ⟨_, _, _, _, _, rfl, (HFin.out _ (w1.heap.size) (w1.heap.size + 1) (w1.heap.size + 1 + 1) (three_below w1 _ _ _) (by omega) (by omega) (by omega) (three_dv w1 _ _ _).1 (three_dv w1 _ _ _).2.1 (three_dv w1 _ _ _).2.2).1, (HFin.out _ (w1.heap.size) (w1.heap.size + 1) (w1.heap.size + 1 + 1) (three_below w1 _ _ _) (by omega) (by omega) (by omega) (three_dv w1 _ _ _).1 (three_dv w1 _ _ _).2.1 (three_dv w1 _ _ _).2.2).2, by omega, by omega, by omega, by omega, by omega⟩
      | exact ⟨_, _, _, _, _, rfl, (HFin.out _ (w1.heap.size) (w1.heap.size + 1 + 1) (w1.heap.size + 1) (three_below w1 _ _ _) (by omega) (by omega) (by omega) (three_dv w1 _ _ _).1 (three_dv w1 _ _ _).2.2 (three_dv w1 _ _ _).2.1).1, (HFin.out _ (w1.heap.size) (w1.heap.size + 1 + 1) (w1.heap.size + 1) (three_below w1 _ _ _) (by omega) (by omega) (by omega) (three_dv w1 _ _ _).1 (three_dv w1 _ _ _).2.2 (three_dv w1 _ _ _).2.1).2, by omega, by omega, by omega, by omega, by omega⟩
      | exact ⟨_, _, _, _, _, rfl, (HFin.out _ (w1.heap.size + 1) (w1.heap.size) (w1.heap.size + 1 + 1) (three_below w1 _ _ _) (by omega) (by omega) (by omega) (three_dv w1 _ _ _).2.1 (three_dv w1 _ _ _).1 (three_dv w1 _ _ _).2.2).1, (HFin.out _ (w1.heap.size + 1) (w1.heap.size) (w1.heap.size + 1 + 1) (three_below w1 _ _ _) (by omega) (by omega) (by omega) (three_dv w1 _ _ _).2.1 (three_dv w1 _ _ _).1 (three_dv w1 _ _ _).2.2).2, by omega, by omega, by omega, by omega, by omega⟩
      | exact ⟨_, _, _, _, _, rfl, (HFin.out _ (w1.heap.size + 1) (w1.heap.size + 1 + 1) (w1.heap.size) (three_below w1 _ _ _) (by omega) (by omega) (by omega) (three_dv w1 _ _ _).2.1 (three_dv w1 _ _ _).2.2 (three_dv w1 _ _ _).1).1, (HFin.out _ (w1.heap.size + 1) (w1.heap.size + 1 + 1) (w1.heap.size) (three_below w1 _ _ _) (by omega) (by omega) (by omega) (three_dv w1 _ _ _).2.1 (three_dv w1 _ _ _).2.2 (three_dv w1 _ _ _).1).2, by omega, by omega, by omega, by omega, by omega⟩
      | exact ⟨_, _, _, _, _, rfl, (HFin.out _ (w1.heap.size + 1 + 1) (w1.heap.size) (w1.heap.size + 1) (three_below w1 _ _ _) (by omega) (by omega) (by omega) (three_dv w1 _ _ _).2.2 (three_dv w1 _ _ _).1 (three_dv w1 _ _ _).2.1).1, (HFin.out _ (w1.heap.size + 1 + 1) (w1.heap.size) (w1.heap.size + 1) (three_below w1 _ _ _) (by omega) (by omega) (by omega) (three_dv w1 _ _ _).2.2 (three_dv w1 _ _ _).1 (three_dv w1 _ _ _).2.1).2, by omega, by omega, by omega, by omega, by omega⟩
      | exact ⟨_, _, _, _, _, rfl, (HFin.out _ (w1.heap.size + 1 + 1) (w1.heap.size + 1) (w1.heap.size) (three_below w1 _ _ _) (by omega) (by omega) (by omega) (three_dv w1 _ _ _).2.2 (three_dv w1 _ _ _).2.1 (three_dv w1 _ _ _).1).1, (HFin.out _ (w1.heap.size + 1 + 1) (w1.heap.size + 1) (w1.heap.size) (three_below w1 _ _ _) (by omega) (by omega) (by omega) (three_dv w1 _ _ _).2.2 (three_dv w1 _ _ _).2.1 (three_dv w1 _ _ _).1).2, by omega, by omega, by omega, by omega, by omega⟩
end
end Go.Proofs.Ythgjlofebicpiaa

/-
  Package dev: what a crash does with each cached sector.
-/
namespace Go.Proofs.Ythgjlofebicpiaa
open Go.RowKit Geom Zone Dev
set_option linter.unusedVariables false

namespace Dev
/-- what a crash goes by: the bits, the counts, whether the last sector was left, which it was, the zones -/
structure Cst where
  soft : Int
  kept : List Int
  left : Bool
  last : Wr
  L : List Z
def crs (conv : Int) (keep : List Int) (s : Cst) (c : Wr) : Int × Cst :=
  if (lvs conv keep s.soft s.kept c.1).1 = true then (1, ⟨(lvs conv keep s.soft s.kept c.1).2.1, (lvs conv keep s.soft s.kept c.1).2.2, true, c, s.L⟩)
  else (2, ⟨(lvs conv keep s.soft s.kept c.1).2.1, (lvs conv keep s.soft s.kept c.1).2.2, false, c, cutL s.L c.1 c.2.1⟩)
end Dev

/-- what the closure of a crash holds -/
def CrI (w : World) (d n cz gz bl bt be bx bd bs bw bk gk : Nat) (keepA : Option Addr) (kn kc : Nat) (keep : List Int) (soft0 tear : Int) (s : Cst) : Prop :=
  Box w bl 85 [.func (.func 59) #[] #[.pointer (some ⟨bd, 0, none⟩), .pointer (some ⟨bs, 0, none⟩), .pointer (some ⟨bw, 0, none⟩), .pointer (some ⟨bk, 0, none⟩)]] ∧
    Box w bt 84 (wc s.last) ∧ Box w be 4 [.bool s.left] ∧ Box w bx 27 [dp d] ∧ LvI w d bd bs bw bk gk keepA kn kc keep soft0 tear n s.soft s.kept ∧
    w.ownsRow 0 66 2 (.slice (some ⟨gz, 0, none⟩) n cz) n (zc s.L) ∧ s.L.length = n ∧ s.last.2.2.length = 64 ∧ (∀ ad, keepA = some ad → ints keep ≠ [] → ad.block ≠ bt ∧ ad.block ≠ be ∧ ad.block ≠ gz)

section
variable {w : World} {d : Nat} {conv soft seq size opn : Int} {zv : Value} {lb : Nat} {cv : Value} {nb : Nat} {down : Bool} {armed ill : Int}
variable {n cz gz bl bt be bx bd bs' bw bk gk : Nat} {keepA : Option Addr} {kn kc : Nat} {keep : List Int} {soft0 tear : Int}

theorem LvI.same {w' : World} {sf : Int} {kept : List Int} (h : LvI w d bd bs' bw bk gk keepA kn kc keep soft0 tear n sf kept) (hs : w.heap.size ≤ w'.heap.size) (e : ∀ x, x < w.heap.size → x = bd ∨ x = bs' ∨ x = bw ∨ x = bk ∨ x = gk ∨ (∃ ad, keepA = some ad ∧ ints keep ≠ [] ∧ x = ad.block) → w'.heap[x]? = w.heap[x]?) :
    LvI w' d bd bs' bw bk gk keepA kn kc keep soft0 tear n sf kept := by
  obtain ⟨hb, hs', hw, hk, hrow, hkr, hkl, hk64, hk0, hap⟩ := h
  refine ⟨hb.same (e _ hb.lt (.inl rfl)), hs'.same (e _ hs'.lt (.inr (.inl rfl))), hw.same (e _ hw.lt (.inr (.inr (.inl rfl)))), hk.same (e _ hk.lt (.inr (.inr (.inr (.inl rfl))))), own_same hrow fun g hg => e g (hrow.lt g hg).2 (.inr (.inr (.inr (.inr (.inl ?_))))), ?_, hkl, hk64, hk0, hap⟩
  · injection hg with hg; exact hg.symm
  · intro hn
    obtain ⟨ad, ha, hl, hc⟩ := hkr hn
    exact ⟨ad, ha, by omega, fun j u hu => (World.cell?_of_block (e _ (by rw [addr_add_block]; exact hl) (.inr (.inr (.inr (.inr (.inr ⟨ad, ha, hn, by rw [addr_add_block]⟩))))))).trans (hc j u hu)⟩

/-- behind the count: the last sector, and whether it was left, are laid -/
theorem CrI.laid {s : Cst} (h : CrI w d n cz gz bl bt be bx bd bs' bw bk gk keepA kn kc keep soft0 tear s) {w2 : World} {sf : Int} {kept : List Int} (hI : LvI w2 d bd bs' bw bk gk keepA kn kc keep soft0 tear n sf kept) (hF : Fr (fun k => k = bs' ∨ k = gk) w w2) (c : Wr) (hc : c.2.2.length = 64) (b : Bool) :
    CrI ((w2.setRow bt (wc c).toArray).setCell ⟨be, 0, none⟩ (.bool b)) d n cz gz bl bt be bx bd bs' bw bk gk keepA kn kc keep soft0 tear ⟨sf, kept, b, c, s.L⟩ ∧ w2.heap[bt]? = w.heap[bt]? ∧ (w2.setRow bt (wc c).toArray).heap[be]? = w.heap[be]? := by
  obtain ⟨h1, h2, h3, h4, h5, h6, h7, h8, h9⟩ := h
  obtain ⟨hb, hs', hw, hk, hrow, hkr, hkl, hk64, hk0, hap⟩ := h5
  have k1 : ∀ x, x < w.heap.size → x ≠ bs' → x ≠ gk → w2.heap[x]? = w.heap[x]? := fun x hx e1 e2 => hF.same hx (fun h => h.elim e1 e2)
  have t1 := k1 bl h1.lt (h1.ne hs' (by decide)) (h1.ne_row hrow rfl (by decide))
  have t2 := k1 bt h2.lt (h2.ne hs' (by decide)) (h2.ne_row hrow rfl (by decide))
  have t3 := k1 be h3.lt (h3.ne hs' (by decide)) (h3.ne_row hrow rfl (by decide))
  have t4 := k1 bx h4.lt (h4.ne hs' (by decide)) (h4.ne_row hrow rfl (by decide))
  have gzl := (h6.lt gz rfl).2
  have gzs : gz ≠ bs' := fun e => hs'.ne_row h6 rfl (by decide) e.symm
  have gzk : gz ≠ gk := by
    rintro rfl
    obtain ⟨_, c1, e1⟩ := own_type h6 rfl
    obtain ⟨_, c2, e2⟩ := own_type hrow rfl
    rw [e1] at e2
    injection e2 with e2
    injection e2 with _ e2
    exact absurd e2 (by decide)
  have t6 := k1 gz gzl gzs gzk
  have ne1 : be ≠ bt := h3.ne h2 (by decide)
  have s1 : ∀ x, x ≠ bt → (w2.setRow bt (wc c).toArray).heap[x]? = w2.heap[x]? := fun x hx => setRow_other _ _ _ _ hx
  have s2 : ∀ x, x ≠ be → ((w2.setRow bt (wc c).toArray).setCell ⟨be, 0, none⟩ (.bool b)).heap[x]? = (w2.setRow bt (wc c).toArray).heap[x]? := fun x hx => heap_setCell_other _ _ _ _ hx
  have s3 : ∀ x, x ≠ bt → x ≠ be → ((w2.setRow bt (wc c).toArray).setCell ⟨be, 0, none⟩ (.bool b)).heap[x]? = w2.heap[x]? := fun x e1 e2 => (s2 x e2).trans (s1 x e1)
  have hbe : Box (w2.setRow bt (wc c).toArray) be 4 [.bool s.left] := h3.same ((s1 be ne1).trans t3)
  refine ⟨⟨h1.same ((s3 bl (h1.ne h2 (by decide)) (h1.ne h3 (by decide))).trans t1), ?_, ?_, h4.same ((s3 bx (h4.ne h2 (by decide)) (h4.ne h3 (by decide))).trans t4), ?_, ?_, h7, hc, h9⟩, t2, (s1 be ne1).trans t3⟩
  · refine Box.same (w := w2.setRow bt (wc c).toArray) ?_ (s2 bt ne1.symm)
    exact setRow_heap w2 bt _ _ _ _ (t2.trans h2)
  · exact hbe.set 0 (.bool b)
  · obtain ⟨hb2, hs2, hw2, hk2, hrow2, _⟩ := id hI
    refine hI.same (by simp [World.setCell]) fun x hx hh => s3 x ?_ ?_
    · have hbt : Box w2 bt 84 (wc s.last) := h2.same t2
      rcases hh with rfl | rfl | rfl | rfl | rfl | ⟨ad, ha, hn, rfl⟩
      · exact (hb2.ne hbt (by decide))
      · exact (hs2.ne hbt (by decide))
      · exact (hw2.ne hbt (by decide))
      · exact (hk2.ne hbt (by decide))
      · exact fun e => hbt.ne_row hrow2 rfl (by decide) e.symm
      · exact (h9 ad ha hn).1
    · have hbt : Box w2 be 4 [.bool s.left] := h3.same t3
      rcases hh with rfl | rfl | rfl | rfl | rfl | ⟨ad, ha, hn, rfl⟩
      · exact (hb2.ne hbt (by decide))
      · exact (hs2.ne hbt (by decide))
      · exact (hw2.ne hbt (by decide))
      · exact (hk2.ne hbt (by decide))
      · exact fun e => hbt.ne_row hrow2 rfl (by decide) e.symm
      · exact (h9 ad ha hn).2.1
  · exact own_same h6 fun g hg => by
      injection hg with hg
      have hg : gz = g := hg
      subst hg
      exact (s3 gz (fun e => h2.ne_row h6 rfl (by decide) e.symm) (fun e => h3.ne_row h6 rfl (by decide) e.symm)).trans t6

set_option maxRecDepth 100000 in
set_option maxHeartbeats 4000000 in
theorem crash1_any (s : Cst) (c : Wr) (hc : c.2.2.length = 64) (h0 : 0 ≤ c.1) (h1 : c.1 < n) (ho0 : 0 ≤ c.2.1) (ho1 : c.2.1 ≤ 65536) (hcv0 : 0 ≤ conv) (hcv1 : conv ≤ 1000) (hcap : kn ≤ kc) (hkc : kc ≤ maxLen) (hnl : n ≤ 1000)
    (hD : DBlk w d conv soft seq size opn (.slice (some ⟨gz, 0, none⟩) n cz) lb cv nb down armed ill) (hI : CrI w d n cz gz bl bt be bx bd bs' bw bk gk keepA kn kc keep soft0 tear s) :
    Calls Try.prog 34 (#[.agg (wc c).toArray] ++ #[.pointer (some ⟨bl, 0, none⟩), .pointer (some ⟨bt, 0, none⟩), .pointer (some ⟨be, 0, none⟩), .pointer (some ⟨bx, 0, none⟩)]) w fun e w' =>
      e = .returned (.int .i64 (crs conv keep s c).1) ∧ CrI w' d n cz gz bl bt be bx bd bs' bw bk gk keepA kn kc keep soft0 tear (crs conv keep s c).2 ∧ Fr (fun k => k = bs' ∨ k = gk ∨ k = bt ∨ k = be ∨ k = gz) w w' := by
  have hlen : (wc c).length = 66 := wc_length hc
  obtain ⟨m, hm66, hsz⟩ := big_size (P := Try.prog) (t := 84) (s := 66) (by kernel_rfl)
  have hlenm : (wc c).length = m := by rw [hlen, hm66]
  obtain ⟨w1, hw1⟩ : ∃ w1, w1 = w.alloc (.cells (wc c).toArray 84) := ⟨_, rfl⟩
  have hs1 : ∀ x, x < w.heap.size → w1.heap[x]? = w.heap[x]? := fun x hx => by rw [hw1]; exact Below.heap_alloc _ _ _ hx
  have hz1 : w1.heap.size = w.heap.size + 1 := by rw [hw1]; simp
  have hD1 : DBlk w1 d conv soft seq size opn (.slice (some ⟨gz, 0, none⟩) n cz) lb cv nb down armed ill := hD.same (hs1 _ hD.lt)
  have hI1 : CrI w1 d n cz gz bl bt be bx bd bs' bw bk gk keepA kn kc keep soft0 tear s := by
    obtain ⟨h1, h2, h3, h4, h5, h6, h7, h8, h9⟩ := hI
    exact ⟨h1.same (hs1 _ h1.lt), h2.same (hs1 _ h2.lt), h3.same (hs1 _ h3.lt), h4.same (hs1 _ h4.lt), h5.same (by omega) (fun x hx _ => hs1 x hx), own_same h6 fun g hg => hs1 g (h6.lt g hg).2, h7, h8, h9⟩
  have hbx : w1.rangeAt w.heap.size 0 (wc c) := fun j v hj => by rw [Nat.zero_add, hw1]; exact box_cells w _ _ j v hj
  have hF1 : Fr (fun k => k = bs' ∨ k = gk ∨ k = bt ∨ k = be ∨ k = gz) w w1 := by rw [hw1]; exact (Fr.refl w).alloc _
  have hlt : bl < w.heap.size ∧ bt < w.heap.size ∧ be < w.heap.size ∧ bx < w.heap.size ∧ bs' < w.heap.size ∧ gk < w.heap.size ∧ gz < w.heap.size ∧ d < w.heap.size := by
    obtain ⟨h1, h2, h3, h4, h5, h6, h7, h8, h9⟩ := hI
    exact ⟨h1.lt, h2.lt, h3.lt, h4.lt, h5.2.1.lt, (h5.2.2.2.2.1.lt gk rfl).2, (h6.lt gz rfl).2, hD.lt⟩
  have hcl := hI1.1.cell 0
  -- the counting closure, in the world that it is called in
  have hL := leavesF_any (w := w1.drew) c hc h0 (by omega) hcv0 hcv1 (by omega) hcap hkc hnl (hD := hD1) (hI := hI1.2.2.2.2.1)
  generalize hr : lvs conv keep s.soft s.kept c.1 = r at hL
  obtain ⟨rb, rs, rk⟩ := r
  have hcr : crs conv keep s c = if rb = true then (1, ⟨rs, rk, true, c, s.L⟩) else (2, ⟨rs, rk, false, c, cutL s.L c.1 c.2.1⟩) := by unfold crs; rw [hr]
  rw [hcr]
  -- what follows it
  have HT : ∀ w2, LvI w2 d bd bs' bw bk gk keepA kn kc keep soft0 tear n rs rk → Fr (fun k => k = bs' ∨ k = gk) w1.drew w2 →
      CrI ((w2.setRow bt (wc c).toArray).setCell ⟨be, 0, none⟩ (.bool rb)) d n cz gz bl bt be bx bd bs' bw bk gk keepA kn kc keep soft0 tear ⟨rs, rk, rb, c, s.L⟩ ∧
      (storeCells ⟨bt, 0, none⟩ (wc c) 0).run Try.prog w2 = .ok () (w2.setRow bt (wc c).toArray) ∧ (w2.setRow bt (wc c).toArray).cell? ⟨be, 0, none⟩ = some (.bool s.left) ∧ (w2.setRow bt (wc c).toArray).frozen? ⟨be, 0, none⟩ = false ∧
      Fr (fun k => k = bs' ∨ k = gk ∨ k = bt ∨ k = be ∨ k = gz) w1 w2 := by
    intro w2 hI2 hF2
    obtain ⟨k1, k2, k3⟩ := CrI.laid (w := w1.drew) hI1 hI2 hF2 c hc rb
    have hbe : Box (w2.setRow bt (wc c).toArray) be 4 [.bool s.left] := hI1.2.2.1.same k3
    refine ⟨k1, big_store _ w2 bt _ 84 _ _ (k2.trans hI1.2.1) (by rw [hlen]; kernel_rfl) (by simp [wc_length hI1.2.2.2.2.2.2.2.1, hlen]) (fun u hu => wc_cells hu), hbe.cell 0, hbe.frozen 0, (Fr.refl w1).drew.trans (hF2.mono fun k _ h => h.elim .inl fun h => .inr (.inl h))⟩
  have HT := Lib.hid HT
  have hL2 : Calls Try.prog 59 #[.agg (wc c).toArray, .pointer (some ⟨bd, 0, none⟩), .pointer (some ⟨bs', 0, none⟩), .pointer (some ⟨bw, 0, none⟩), .pointer (some ⟨bk, 0, none⟩)] w1.drew fun e w' =>
      e = .returned (.bool rb) ∧ LvI w' d bd bs' bw bk gk keepA kn kc keep soft0 tear n rs rk ∧ Fr (fun k => k = bs' ∨ k = gk) w1.drew w' := hL
  have HL := Lib.hid hL2
  clear hL2
  have hSO : ∀ w', Fr (fun k => k = bs' ∨ k = gk ∨ k = bt ∨ k = be ∨ k = gz) w1 w' → w'.cell? ⟨bl, 0, none⟩ = some (.func (.func 59) #[] #[.pointer (some ⟨bd, 0, none⟩), .pointer (some ⟨bs', 0, none⟩), .pointer (some ⟨bw, 0, none⟩), .pointer (some ⟨bk, 0, none⟩)]) ∧ w'.rangeAt w.heap.size 0 (wc c) := by
    intro w' hf
    have hrow := hI1.2.2.2.2.2.1
    have hrk := hI1.2.2.2.2.1.2.2.2.2.1
    refine ⟨(hf.cell (a := ⟨bl, 0, none⟩) (by have := hlt.1; simp; omega) (fun h => ?_)).trans hcl, fun j v hj => (hf.cell (a := ⟨w.heap.size, 0 + j, none⟩) (by simp; omega) (fun h => ?_)).trans (hbx j v hj)⟩
    · have h2 := hI1.1
      rcases h with h | h | h | h | h
      · exact h2.ne hI1.2.2.2.2.1.2.1 (by decide) h
      · exact h2.ne_row hrk rfl (by decide) h
      · exact h2.ne hI1.2.1 (by decide) h
      · exact h2.ne hI1.2.2.1 (by decide) h
      · exact h2.ne_row hrow rfl (by decide) h
    · simp only at h
      omega
  have SO := Lib.hid hSO
  have hld : ∀ w', w'.rangeAt w.heap.size 0 (wc c) → (loadCellsFrom ⟨w.heap.size, 0, none⟩ 0 m #[]).run Try.prog w' = .ok (wc c).toArray w' := fun w' h => big_load0 Try.prog w.heap.size 0 (wc c) m hlenm w' h
  have HA := Lib.hid (And.intro hD1 (And.intro hI1 (And.intro hbx (And.intro hF1 (And.intro hlt (And.intro hz1 (And.intro hlen hm66)))))))
  have HW := Lib.hid hw1
  clear hD1 hI1 hbx hF1 hlt hz1 hlen hm66 hs1 hcl hL hSO hr hcr hI hD
  go_enter Try.func34, Try.ntmps34
  go_wp2_with fail
  rw [← hw1]
  clear hw1
  go_region_held3 (fun w' => w'.cell? ⟨bl, 0, none⟩ = some (.func (.func 59) #[] #[.pointer (some ⟨bd, 0, none⟩), .pointer (some ⟨bs', 0, none⟩), .pointer (some ⟨bw, 0, none⟩), .pointer (some ⟨bk, 0, none⟩)]) ∧ w'.rangeAt w.heap.size 0 (wc c))
    (first | exact SO.out _ (Fr.refl w1).drew | exact SO.out _ G2 | exact SO.out _ (G2.setRow _ _ (.inr (.inr (.inl rfl)))) | exact SO.out _ ((G2.setRow _ _ (.inr (.inr (.inl rfl)))).setCell _ _ (.inr (.inr (.inr (.inl rfl))))))
    (((with_reducible refine HL.out.mono ?_); rintro e w2 ⟨rfl, hI2, hF2⟩; obtain ⟨K1, hst, ce, fe, G2⟩ := HT.out w2 hI2 hF2))
  obtain ⟨hD1, hI1, hbx, hF1, hlt, hz1, hlen, hm66⟩ := HA.out
  have G3 := (G2.setRow bt (wc c).toArray (.inr (.inr (.inl rfl)))).setCell ⟨be, 0, none⟩ (.bool rb) (.inr (.inr (.inr (.inl rfl))))
  generalize (w2.setRow bt (wc c).toArray).setCell ⟨be, 0, none⟩ (.bool rb) = W3 at K1 G3 ⊢
  have S3 := SO.out W3 G3
  have hD3 : DBlk W3 d conv soft seq size opn (.slice (some ⟨gz, 0, none⟩) n cz) lb cv nb down armed ill := by
    have hrk := hI1.2.2.2.2.1.2.2.2.2.1
    have hrow := hI1.2.2.2.2.2.1
    refine hD1.same (G3.same (by omega) ?_)
    have hdB : Box w1 d 82 (dcs conv soft seq size opn (.slice (some ⟨gz, 0, none⟩) n cz) lb cv nb down armed ill).toList := hD1
    rintro (h | h | h | h | h)
    · exact hdB.ne hI1.2.2.2.2.1.2.1 (by decide) h
    · exact hdB.ne_row hrk rfl (by decide) h
    · exact hdB.ne hI1.2.1 (by decide) h
    · exact hdB.ne hI1.2.2.1 (by decide) h
    · exact hdB.ne_row hrow rfl (by decide) h
  have ce3 : W3.cell? ⟨be, 0, none⟩ = some (.bool rb) := K1.2.2.1.cell 0
  have cx3 : W3.cell? ⟨bx, 0, none⟩ = some (dp d) := K1.2.2.2.1.cell 0
  have q0 : W3.cell? ⟨w.heap.size, 0, none⟩ = some (.int .i64 c.1) := S3.2 0 _ rfl
  have q1 : W3.cell? ⟨w.heap.size, 1, none⟩ = some (.int .i64 c.2.1) := S3.2 1 _ rfl
  have HK := Lib.hid (And.intro K1 (And.intro (hF1.trans G3) hD3))
  clear K1 G3 G2 S3 hD3 hD1 hI1 hbx hF1 hlt hz1 hlen hm66 HA hI2 hF2 hst ce fe hld SO HT HL
  by_cases hb : rb = true
  · subst hb
    go_wp2
    go_ret
    exact ⟨rfl, HK.out.1, HK.out.2.1⟩
  · obtain rfl : rb = false := by simpa using hb
    obtain ⟨hK1, hK2, hK3⟩ := HK.out
    have hcut := dvcut_any gz n cz s.L c.1 c.2.1 h0 h1 hnl ho0 ho1 hK3 hK1.2.2.2.2.2.1 hK1.2.2.2.2.2.2.1
    have HC := Lib.hid hcut
    clear hcut hK1 hK2 hK3 h0 h1 ho0 ho1
    go_wp2_with fail
    refine HC.out.mono ?_
    rintro e w5 ⟨rfl, hown5, hf5⟩
    have HX := Lib.hid (And.intro hown5 hf5)
    clear hown5 hf5
    go_wp2
    go_ret
    obtain ⟨⟨k1, k2, k3, k4, k5, k6, k7, k8, k9⟩, hK2, hK3⟩ := HK.out
    obtain ⟨hown5, hf5⟩ := HX.out
    have hne : ∀ {b T cs}, Box W3 b T cs → T ≠ 66 → b ≠ gz := fun h hT => h.ne_row k6 rfl hT
    have hk := k5
    obtain ⟨hb1, hb2, hb3, hb4, hb5, _⟩ := hk
    refine ⟨rfl, ⟨k1.same (hf5.same k1.lt (hne k1 (by decide))), k2.same (hf5.same k2.lt (hne k2 (by decide))), k3.same (hf5.same k3.lt (hne k3 (by decide))), k4.same (hf5.same k4.lt (hne k4 (by decide))), ?_, hown5, ?_, k8, k9⟩, hK2.trans (hf5.mono fun k _ h => .inr (.inr (.inr (.inr h))))⟩
    · refine k5.same hf5.size fun x hx hh => hf5.same hx ?_
      rcases hh with rfl | rfl | rfl | rfl | rfl | ⟨ad, ha, hn, rfl⟩
      · exact hne hb1 (by decide)
      · exact hne hb2 (by decide)
      · exact hne hb3 (by decide)
      · exact hne hb4 (by decide)
      · rintro rfl
        obtain ⟨_, c1, e1⟩ := own_type k6 rfl
        obtain ⟨_, c2, e2⟩ := own_type hb5 rfl
        rw [e1] at e2
        injection e2 with e2
        injection e2 with _ e2
        exact absurd e2 (by decide)
      · exact (k9 ad ha hn).2.2
    · show (cutL s.L c.1 c.2.1).length = n
      unfold cutL
      split
      · exact k7
      · split
        · rw [List.length_set]; exact k7
        · rw [List.length_set]; exact k7
end
end Go.Proofs.Ythgjlofebicpiaa

/-
  DevW DevX DevY DevZ
-/
import Derived.Test.YthgjlofebicpiaaMg32
import Derived.Test.YthgjlofebicpiaaMg25
import Derived.Test.YthgjlofebicpiaaMg23
import Derived.Ground.SlmcProg
import Derived.Shelf.Lay
import Derived.Shelf.SlMaps.Clone
/-
  Package dev: New.
-/
namespace Go.Proofs.Ythgjlofebicpiaa
open Go.RowKit Geom Zone Dev
set_option linter.unusedVariables false

namespace Dev
def newD (conv soft seq size opn : Int) (n : Nat) : Dv :=
  { conv := conv, soft := soft, seq := seq, size := size, opn := opn, n := n, L := newK n conv.toNat, last := fun _ => none, use := 0, cache := [], down := false, armed := 0, ill := 0 }
end Dev
theorem MapIs.alloc {w : World} {b n : Nat} {f : Int × Int → Option Value} (h : MapIs w b n f) (o : Obj) : MapIs (w.alloc o) b n f := h.same (Below.heap_alloc _ _ _ h.lt)
theorem MapIs.below {w w' : World} {b n : Nat} {f : Int × Int → Option Value} (h : MapIs w b n f) (hb : Below w.heap.size w w') : MapIs w' b n f := h.same (hb.block _ h.lt)
theorem MapIs.drew {w : World} {b n : Nat} {f : Int × Int → Option Value} (h : MapIs w b n f) : MapIs w.drew b n f := h
theorem MapIs.made' (w : World) (b : Nat) (hb : b = w.heap.size) : MapIs (w.alloc (.map #[] 0)) b 0 (fun _ => none) := hb ▸ MapIs.made w
theorem dnew_fin (conv soft seq size opn : Int) (n g lb nb dd : Nat) (w W : World) (hdd : dd = W.heap.size) (hown : W.ownsRow 0 66 2 (.slice (some ⟨g, 0, none⟩) n n) n (zc (newK n conv.toNat))) (h1 : MapIs W lb 0 fun _ => none) (h2 : MapIs W nb 0 fun _ => none)
    (hg : w.heap.size ≤ g) (hl : w.heap.size ≤ lb) (hn : w.heap.size ≤ nb) (hne : lb ≠ nb) (hb : Below w.heap.size w W) :
    DevIs (fun k => w.heap.size ≤ k) (W.alloc (.cells (dcs conv soft seq size opn (.slice (some ⟨g, 0, none⟩) n n) lb (.slice none 0 0) nb false 0 0) 82)) dd (newD conv soft seq size opn n) ∧
      Below w.heap.size w (W.alloc (.cells (dcs conv soft seq size opn (.slice (some ⟨g, 0, none⟩) n n) lb (.slice none 0 0) nb false 0 0) 82)) :=
  hdd ▸ ⟨⟨g, n, lb, .slice none 0 0, nb, (MapKept.heap_alloc W _).1, hown.alloc _, ⟨rfl, .inl ⟨rfl, rfl⟩⟩, h1.alloc _, (h2.alloc _).same rfl, hb.size, hg, hl, hn, (fun g h => by cases h), hne⟩, hb.alloc hb.size _⟩
set_option maxRecDepth 100000 in
set_option maxHeartbeats 4000000 in
theorem dnew_any (conv soft seq size opn : Int) (n : Nat) (w : World) (H : Ok conv soft seq size opn) (hn : (n : Int) = conv + seq) :
    Calls Try.prog 21 #[.agg #[.int .i64 conv, .int .i64 soft, .int .i64 seq, .int .i64 size, .int .i64 opn]] w fun e w' => ∃ d, e = .returned (dp d) ∧ DevIs (fun k => w.heap.size ≤ k) w' d (newD conv soft seq size opn n) ∧ Below w.heap.size w w' := by
  have HN := Lib.hid fun w' => new_any conv soft seq size opn n w' H hn
  have hmm := @run_makeMap Try.prog
  have hl := Lies.new w conv soft seq size opn 23 (0, 0)
  have hB1 : Below w.heap.size w (w.alloc (.cells #[.int .i64 conv, .int .i64 soft, .int .i64 seq, .int .i64 size, .int .i64 opn] 23)) := (Below.refl _ _).alloc (Nat.le_refl _) _
  have hz1 : (w.alloc (.cells #[.int .i64 conv, .int .i64 soft, .int .i64 seq, .int .i64 size, .int .i64 opn] 23)).heap.size = w.heap.size + 1 := by simp
  have hn0 : 0 < n := by have := H.1; have := H.2.1; omega
  have HB := Lib.hid (And.intro hB1 (And.intro hz1 hn0))
  clear hB1 hz1
  go_enter Try.func21, Try.ntmps21
  go_wp2_with fail
  generalize World.alloc _ _ = w1 at hl HB ⊢
  have SO := Lib.hid fun w' (h : Below w1.heap.size w1 w') => (⟨(hl.below h).1, (hl.below h).2.1, (hl.below h).2.2.1, (hl.below h).2.2.2.1, (hl.below h).2.2.2.2.1⟩ :
    w'.cell? ⟨w.heap.size, 0, none⟩ = some (.int .i64 conv) ∧ w'.cell? ⟨w.heap.size, 1, none⟩ = some (.int .i64 soft) ∧ w'.cell? ⟨w.heap.size, 2, none⟩ = some (.int .i64 seq) ∧ w'.cell? ⟨w.heap.size, 3, none⟩ = some (.int .i64 size) ∧ w'.cell? ⟨w.heap.size, 4, none⟩ = some (.int .i64 opn))
  go_region_held3 (fun w' => w'.cell? ⟨w.heap.size, 0, none⟩ = some (.int .i64 conv) ∧ w'.cell? ⟨w.heap.size, 1, none⟩ = some (.int .i64 soft) ∧ w'.cell? ⟨w.heap.size, 2, none⟩ = some (.int .i64 seq) ∧ w'.cell? ⟨w.heap.size, 3, none⟩ = some (.int .i64 size) ∧ w'.cell? ⟨w.heap.size, 4, none⟩ = some (.int .i64 opn))
    ((refine SO.out _ ?_; repeat (first | exact Below.refl _ _ | exact B5 | refine Below.drew ?_ | refine Below.alloc ?_ (by first | omega | (simp; done) | (simp; omega) | (have := B5.size; simp; omega)) _)))
    (((with_reducible refine (HN.out _).mono ?_); rintro x w5 ⟨g5, rfl, hown5, hb5⟩; have B5 : Below w1.heap.size w1 w5 := (by
        have hb6 := hb5
        revert hb6
        first
          | exact fun hb6 => bthen (Below.refl _ _).drew hb6
          | exact fun hb6 => bthen ((Below.refl _ _).alloc (Nat.le_refl _) _).drew hb6
          | exact fun hb6 => bthen (((Below.refl _ _).alloc (Nat.le_refl _) _).alloc (by simp) _).drew hb6)))
  all_goals
    have hs5 := B5.size
    have hg5 : w1.heap.size ≤ g5 := by
      obtain ⟨g', e', l1, l2⟩ := own_at hown5 HB.out.2.2
      injection e' with e'
      injection e' with e'
      subst e'
      refine Nat.le_trans ?_ l1
      first
        | exact Nat.le_refl _
        | (show w1.heap.size ≤ (w1.alloc _).heap.size; simp)
        | (show w1.heap.size ≤ ((w1.alloc _).alloc _).heap.size; simp; omega)
    have hb0 := HB.out.1
    have hz0 := HB.out.2.1
    have hBW : Below w.heap.size w w5 := hb0.trans (B5.mono (by omega))
    have hown0 := own_base0 hown5 (Nat.zero_le _)
    go_wp2
    go_ret
    refine ⟨_, rfl, dnew_fin conv soft seq size opn n g5 _ _ _ w _ ?_ ?_ ?_ ?_ ?_ ?_ ?_ ?_ ?_⟩
    · first | rfl | (simp; done)
    · first | exact hown0 | exact hown0.alloc _ | exact (hown0.alloc _).alloc _
    · repeat (first | (with_reducible refine MapIs.made' _ _ ?_; first | rfl | (simp; done)) | (refine MapIs.drew ?_; refine MapIs.made' _ _ ?_; first | rfl | (simp; done)) | (refine MapIs.drew ?_; refine MapIs.alloc ?_ _; refine MapIs.made' _ _ ?_; first | rfl | (simp; done)) | (with_reducible refine MapIs.alloc ?_ _) | (with_reducible refine MapIs.below ?_ hb5))
    · repeat (first | (with_reducible refine MapIs.made' _ _ ?_; first | rfl | (simp; done)) | (refine MapIs.drew ?_; refine MapIs.made' _ _ ?_; first | rfl | (simp; done)) | (refine MapIs.drew ?_; refine MapIs.alloc ?_ _; refine MapIs.made' _ _ ?_; first | rfl | (simp; done)) | (with_reducible refine MapIs.alloc ?_ _) | (with_reducible refine MapIs.below ?_ hb5))
    · omega
    · omega
    · omega
    · first | omega | (have h6 : (w1.alloc _).heap.size ≤ w5.heap.size := hb5.size; simp at h6; omega)
    · first | exact hBW | exact hBW.alloc (by omega) _ | exact (hBW.alloc (by omega) _).alloc (by simp; omega) _
end Go.Proofs.Ythgjlofebicpiaa

/-
  Package dev: copies of a list of written sectors and of maps.
-/
namespace Go.Proofs
open Go.Shelf
end Go.Proofs
namespace Go.Proofs.Ythgjlofebicpiaa
open Go.RowKit Geom Zone Dev
set_option linter.unusedVariables false

theorem isnil_wr (w : World) (a : Option Addr) (n c : Nat) : (binOp .eql 79 (.slice a n c) (.slice none 0 0)).run Try.prog w = .ok (.bool a.isNone) w := Lib.run_eql_slice_nil w _ _ a n c 0 0 Try.underlying79

theorem Rd.own_any {w : World} {base : Nat} {e : TypeId} {size n : Nat} {v : Value} {xs : List Value} (h : w.ownsRow base e size v n xs) : ∀ A m c, v = .slice A m c → Rd w w.heap.size A xs := by
  intro A m c e'
  subst e'
  rcases h.2 with ⟨e1, _⟩ | ⟨g, cap, cur, e1, _⟩
  · injection e1 with e1 e2 e3
    subst e1 e2 e3
    rename_i h0
    exact Rd.own (n := 0) (c := 0) (base := base) (e := e) (size := size) (h0 ▸ h)
  · injection e1 with e1 e2 e3
    subst e1 e2 e3
    exact Rd.own h
end Go.Proofs.Ythgjlofebicpiaa

/-
  Package dev: Clone.
-/
namespace Go.Proofs.Ythgjlofebicpiaa
open Go.RowKit Geom Zone Dev
set_option linter.unusedVariables false

theorem row_slice {w : World} {base : Nat} {e : TypeId} {size n : Nat} {v : Value} {xs : List Value} (h : w.ownsRow base e size v n xs) : ∃ A c, v = .slice A n c := by
  rcases h.2 with ⟨rfl, h0⟩ | ⟨g, cap, cur, rfl, _⟩
  · exact ⟨none, 0, by rw [h0]⟩
  · exact ⟨_, _, rfl⟩
theorem DBlk.set6 {w : World} {d : Nat} {conv soft seq size opn : Int} {zv : Value} {lb : Nat} {cv : Value} {nb : Nat} {down : Bool} {armed ill : Int} (h : DBlk w d conv soft seq size opn zv lb cv nb down armed ill) (b : Nat) :
    DBlk (w.setCell ⟨d, 6, none⟩ (.map (some b))) d conv soft seq size opn zv b cv nb down armed ill := (heap_setCell_same _ _ _ _ _ _ h).trans (by simp)
theorem below_set {w w' : World} {B c i : Nat} (h : Below B w w') (hc : B ≤ c) (v : Value) : Below B w (w'.setCell ⟨c, i, none⟩ v) := ⟨h.os, h.tape, h.output, by simpa [World.setCell] using h.size, fun k hk => (heap_setCell_other _ _ _ _ (by show k ≠ c; omega)).trans (h.block k hk)⟩
theorem row_set {w : World} {base c i : Nat} {e : TypeId} {size n : Nat} {v : Value} {xs : List Value} (h : w.ownsRow base e size v n xs) (hb : c < base) (u : Value) : (w.setCell ⟨c, i, none⟩ u).ownsRow base e size v n xs :=
  own_same h fun g hg => heap_setCell_other _ _ _ _ (by have := (h.lt g hg).1; show g ≠ c; omega)
theorem map_set {w : World} {b n c i : Nat} {f : Int × Int → Option Value} (h : MapIs w b n f) (hb : c < b) (u : Value) : MapIs (w.setCell ⟨c, i, none⟩ u) b n f := h.same (heap_setCell_other _ _ _ _ (by show b ≠ c; omega))
theorem size_set (w : World) (a : Addr) (u : Value) : (w.setCell a u).heap.size = w.heap.size := by simp [World.setCell]
end Go.Proofs.Ythgjlofebicpiaa

/-
  Package dev: something that is done with a device.
-/
namespace Go.Proofs.Ythgjlofebicpiaa
open Go.RowKit Geom Zone Dev
set_option linter.unusedVariables false

namespace Dev
/-- an act, plainly -/
structure AD where
  k : Int
  a : Pl
  p : List Int
  n : Int
  keepA : Option Addr
  kn : Nat
  kc : Nat
  keep : List Int
  soft0 : Int
  tear : Int
def acs (x : AD) : List Value := .int .u8 x.k :: .int .i64 x.a.1 :: .int .i64 x.a.2 :: (bs x.p ++ [.int .i64 x.n, .slice x.keepA x.kn x.kc, .int .u64 x.soft0, .int .i64 x.tear])
def armD (D : Dv) (n : Int) : Dv := if D.down = true then D else { D with armed := max n 0, down := (n == 0) }
def playD (D : Dv) (x : AD) : Int × Dv :=
  if x.k % 9 = 4 then resetD D x.a.1 else if x.k % 9 = 5 then finishD D x.a.1 else if x.k % 9 = 6 then flushD D else if x.k % 9 = 7 then (0, armD D x.n)
  else if x.k % 9 = 8 then (0, crashD D x.keep x.soft0 x.tear) else writeD D (x.a.1, x.a.2, x.p)
/-- what an act's parts keep to -/
structure AOk (T : Nat → Prop) (w : World) (x : AD) : Prop where
  k0 : 0 ≤ x.k
  k1 : x.k < 256
  a1 : W64 x.a.1
  a2 : W64 x.a.2
  p : x.p.length = 64
  n : W64 x.n
  kr : Rd w w.heap.size x.keepA (ints x.keep)
  kl : x.keep.length = x.kn
  cap : x.kn ≤ x.kc
  mc : x.kc ≤ maxLen
  k64 : ∀ y ∈ x.keep, W64 y
  kT : ∀ ad, x.keepA = some ad → ints x.keep ≠ [] → ¬ T ad.block
end Dev
theorem acs_length {x : AD} (h : x.p.length = 64) : (acs x).length = 71 := by simp [acs, bs_length, h]
theorem acs_page {x : AD} {j : Nat} {v : Value} (h : x.p.length = 64) (hj : (bs x.p)[j]? = some v) : (acs x)[j + 3]? = some v := by
  unfold acs
  rw [List.getElem?_cons_succ, List.getElem?_cons_succ, List.getElem?_cons_succ, List.getElem?_append_left ((List.getElem?_eq_some_iff.1 hj).1)]
  exact hj
theorem acs_tail {x : AD} {j : Nat} (h : x.p.length = 64) : (acs x)[67 + j]? = [Value.int .i64 x.n, .slice x.keepA x.kn x.kc, .int .u64 x.soft0, .int .i64 x.tear][j]? := by
  unfold acs
  rw [show 67 + j = (64 + j) + 1 + 1 + 1 by omega, List.getElem?_cons_succ, List.getElem?_cons_succ, List.getElem?_cons_succ, List.getElem?_append_right (by rw [bs_length, h]; omega), bs_length, h]
  congr 1
  omega
section
variable {w : World} {d : Nat} {T : Nat → Prop} {D : Dv}
theorem arm_any (n : Int) (hI : DevIs T w d D) :
    Calls Try.prog 14 #[dp d, .int .i64 n] w fun x w' => x = .returned (.tuple #[]) ∧ DevIs T w' d (armD D n) ∧ Fr T w w' := by
  obtain ⟨gz, cz, lb, cv, nb, hb, h⟩ := id hI
  by_cases hd : D.down = true
  · rw [hd] at hb
    exact (arm_down n hb).mono fun e w' ⟨h1, h2⟩ => ⟨h1, by rw [show armD D n = D from if_pos hd, ← h2]; exact hI, h2 ▸ Fr.refl _⟩
  · have hd' : D.down = false := by simpa using hd
    rw [hd'] at hb
    exact (arm_up n hb).mono fun e w' ⟨h1, h2⟩ => ⟨h1, by rw [show armD D n = { D with armed := max n 0, down := (n == 0) } from if_neg hd, ← h2]; exact hI.set9_10 _ _, h2 ▸ ((Fr.refl _).setCell _ _ hI.at).setCell _ _ hI.at⟩

theorem cell_of_list {w : World} {b k : Nat} {t : TypeId} {cs : List Value} {v : Value} (h : Box w b t cs) (hk : cs[k]? = some v) : w.cell? ⟨b, k, none⟩ = some v := by
  rw [h.cell k]
  exact hk
end
end Go.Proofs.Ythgjlofebicpiaa

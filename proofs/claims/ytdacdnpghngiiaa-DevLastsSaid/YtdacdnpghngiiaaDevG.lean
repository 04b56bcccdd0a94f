/-
  Package dev: cut: a zone's pointer is set back to a sector that is lost.
-/
import Derived.Test.YtdacdnpghngiiaaDevF
import Derived.Test.YtdacdnpghngiiaaZoneG
namespace Go.Proofs.Ytdacdnpghngiiaa
open Go.RowKit Geom Zone Dev
set_option linter.unusedVariables false

namespace Dev
def cutL (L : List Z) (zone off : Int) : List Z :=
  if (zat L zone).1 = 4 ∨ (zat L zone).2 ≤ off then L else if off = 0 then L.set zone.toNat (0, 0) else L.set zone.toNat (2, off)
end Dev

section
variable {w : World} {d : Nat} {conv soft seq size opn : Int} {zv : Value} {lb : Nat} {cv : Value} {nb : Nat} {down : Bool} {armed ill : Int}
set_option maxRecDepth 100000 in
set_option maxHeartbeats 1000000 in
theorem cut_any (gz n cz : Nat) (L : List Z) (zone off : Int) (h0 : 0 ≤ zone) (h1 : zone < n) (hn : n ≤ 1000) (ho0 : 0 ≤ off) (ho1 : off ≤ 65536) (hD : DBlk w d conv soft seq size opn (.slice (some ⟨gz, 0, none⟩) n cz) lb cv nb down armed ill)
    (hown : w.ownsRow 0 45 2 (.slice (some ⟨gz, 0, none⟩) n cz) n (zc L)) (hL : L.length = n) :
    Calls Try.prog 41 #[dp d, .agg #[.int .i64 zone, .int .i64 off]] w fun e w' =>
      e = .returned (.tuple #[]) ∧ w'.ownsRow 0 45 2 (.slice (some ⟨gz, 0, none⟩) n cz) n (zc (cutL L zone off)) ∧ Fr (fun k => k = gz) w w' := by
  obtain ⟨k, rfl⟩ : ∃ k : Nat, zone = (k : Int) := ⟨zone.toNat, by omega⟩
  have hk : k < n := by omega
  have hz := getD_of (L := L) (k := k) (d := (0, 0)) (by omega)
  have hza : zat L (k : Int) = L.getD k (0, 0) := by simp [zat]
  have hm : cutL L (k : Int) off = if (L.getD k (0, 0)).1 = 4 ∨ (L.getD k (0, 0)).2 ≤ off then L else if off = 0 then L.set k (0, 0) else L.set k (2, off) := by
    unfold cutL; rw [hza]; rfl
  rw [hm]
  generalize L.getD k (0, 0) = z at hz ⊢
  have hz0 := (Rd.own hown).cell0 (zc_get0 hz)
  have hz1 := (Rd.own hown).cell0 (zc_get1 hz)
  have hgl := (hown.lt gz rfl).2
  have hsame : ∀ x, x < w.heap.size → (w.alloc (.cells #[.int .i64 (k : Int), .int .i64 off] 36)).heap[x]? = w.heap[x]? := fun x hx => Below.heap_alloc _ _ _ hx
  obtain ⟨a0, a1⟩ := new_cells w (.int .i64 (k : Int)) (.int .i64 off) 36 (0, 0)
  have HF := Lib.hid ((Fr.refl (T := fun x => x = gz) w).alloc (.cells #[.int .i64 (k : Int), .int .i64 off] 36))
  have hown1 := hown.alloc (.cells #[.int .i64 (k : Int), .int .i64 off] 36)
  have HOW := Lib.hid hown1
  have hD1 : DBlk (w.alloc (.cells #[.int .i64 (k : Int), .int .i64 off] 36)) d conv soft seq size opn (.slice (some ⟨gz, 0, none⟩) n cz) lb cv nb down armed ill := hD.same (hsame _ hD.lt)
  have c5 := hD1.mem.1
  have d0 : (w.alloc (.cells #[.int .i64 (k : Int), .int .i64 off] 36)).cell? ⟨gz, k * 2, none⟩ = some (.int .i64 z.1) := (World.cell?_of_block (hsame gz hgl)).trans hz0
  have d1 : (w.alloc (.cells #[.int .i64 (k : Int), .int .i64 off] 36)).cell? ⟨gz, k * 2 + 1, none⟩ = some (.int .i64 z.2) := (World.cell?_of_block (hsame gz hgl)).trans hz1
  have hkI : (k : Int) < (n : Int) := by omega
  have HH := Lib.hid (And.intro hL (And.intro h1 hm))
  clear hown hown1 hD hD1 hz hza hm hz0 hz1 hsame hL h1 hgl
  by_cases hs : z.1 = 4
  · have hq : (z.1 == 4) = true := by simpa using hs
    rw [if_pos (.inl hs)]
    clear hs
    go_enter Try.func41, Try.ntmps41
    go_wp2_with fail
    generalize World.alloc _ _ = w1 at *
    generalize w.heap.size = b0 at *
    go_quiet (fail)
    go_wp2_with fail
    go_quiet (fail)
    go_wp2_with fail
    first
      | (go_end0; exact ⟨rfl, HOW.out, (HF.out.drewN _).drewN _⟩)
      | exact bodyPost_ret (v := .tuple #[]) (by simp [results, Try.results41, go_sem]) rfl ⟨rfl, HOW.out, (HF.out.drewN _).drewN _⟩
  have hq : (z.1 == 4) = false := by simpa using hs
  by_cases hp : z.2 ≤ off
  · have hq2 : decide (z.2 ≤ off) = true := decide_eq_true hp
    rw [if_pos (.inr hp)]
    clear hs hp
    go_enter Try.func41, Try.ntmps41
    go_wp2_with fail
    generalize World.alloc _ _ = w1 at *
    generalize w.heap.size = b0 at *
    go_quiet (fail)
    go_wp2_with fail
    go_quiet (fail)
    go_wp2_with fail
    first
      | (go_end0; exact ⟨rfl, HOW.out, (HF.out.drewN _).drewN _⟩)
      | exact bodyPost_ret (v := .tuple #[]) (by simp [results, Try.results41, go_sem]) rfl ⟨rfl, HOW.out, (HF.out.drewN _).drewN _⟩
  have hq2 : decide (z.2 ≤ off) = false := decide_eq_false hp
  rw [if_neg (fun h => h.elim hs hp)]
  clear hs hp
  by_cases hoz : off = 0
  · subst hoz
    rw [if_pos rfl]
    go_enter Try.func41, Try.ntmps41
    go_wp2_with fail
    generalize World.alloc _ _ = w1 at *
    generalize w.heap.size = b0 at *
    go_quiet (fail)
    go_wp2_with fail
    go_quiet (fail)
    go_wp2_with (first | ((with_reducible refine wpList_store_zone _ (o := ⟨none, .store _ _ _, _, _, _, _⟩) rfl _ _ _ rfl _ gz n cz k _ L (0, 0) (own_drewN HOW.out _) hk rfl rfl rfl ?_); intro w5 hown5 hg5; have Hown5 := Lib.hid hown5; have Hg5 := Lib.hid hg5; clear hown5 hg5) | ((with_reducible refine wpList_store_zone _ (o := ⟨none, .store _ _ _, _, _, _, _⟩) rfl _ _ _ rfl _ gz n cz k _ L (0, 0) (own_drewN (own_drewN HOW.out _) _) hk rfl rfl rfl ?_); intro w5 hown5 hg5; have Hown5 := Lib.hid hown5; have Hg5 := Lib.hid hg5; clear hown5 hg5))
    try go_frame
    go_end0
    first
      | exact ⟨rfl, Hown5.out, (HF.out.drewN _).trans (Fr.of_grown Hg5.out (fun x e => by injection e with e; exact e.symm))⟩
      | exact ⟨rfl, Hown5.out, ((HF.out.drewN _).drewN _).trans (Fr.of_grown Hg5.out (fun x e => by injection e with e; exact e.symm))⟩
  · have hq3 : (off == 0) = false := by simpa using hoz
    rw [if_neg hoz]
    clear hoz
    go_enter Try.func41, Try.ntmps41
    go_wp2_with fail
    generalize World.alloc _ _ = w1 at *
    generalize w.heap.size = b0 at *
    go_quiet (fail)
    go_wp2_with fail
    go_quiet (fail)
    go_wp2_with (first | ((with_reducible refine wpList_store_zone _ (o := ⟨none, .store _ _ _, _, _, _, _⟩) rfl _ _ _ rfl _ gz n cz k _ L (2, off) (own_drewN HOW.out _) hk rfl rfl rfl ?_); intro w5 hown5 hg5; have Hown5 := Lib.hid hown5; have Hg5 := Lib.hid hg5; clear hown5 hg5) | ((with_reducible refine wpList_store_zone _ (o := ⟨none, .store _ _ _, _, _, _, _⟩) rfl _ _ _ rfl _ gz n cz k _ L (2, off) (own_drewN (own_drewN HOW.out _) _) hk rfl rfl rfl ?_); intro w5 hown5 hg5; have Hown5 := Lib.hid hown5; have Hg5 := Lib.hid hg5; clear hown5 hg5))
    try go_frame
    go_end0
    first
      | exact ⟨rfl, Hown5.out, (HF.out.drewN _).trans (Fr.of_grown Hg5.out (fun x e => by injection e with e; exact e.symm))⟩
      | exact ⟨rfl, Hown5.out, ((HF.out.drewN _).drewN _).trans (Fr.of_grown Hg5.out (fun x e => by injection e with e; exact e.symm))⟩
end
end Go.Proofs.Ytdacdnpghngiiaa

/-
  DevT DevU DevV
-/
import Derived.Test.YthgjlofebicpiaaMg31
/-
  Package dev: Reset.
-/
namespace Go.Proofs.Ythgjlofebicpiaa
open Go.RowKit Geom Zone Dev
set_option linter.unusedVariables false

namespace Dev
def dropTo (f : Pl → Option Value) (z : Int) (k : Nat) : Pl → Option Value := fun a => if a.1 = z ∧ 0 ≤ a.2 ∧ a.2 < k then none else f a
theorem dropTo_zero (f : Pl → Option Value) (z : Int) : dropTo f z 0 = f := by
  funext a
  exact if_neg (by omega)
theorem dropTo_succ (f : Pl → Option Value) (z : Int) (k : Nat) : updM (dropTo f z k) (z, (k : Int)) none = dropTo f z (k + 1) := by
  funext a
  unfold updM dropTo
  by_cases h : a = (z, (k : Int))
  · rw [if_pos h, if_pos]
    subst h
    simp
    omega
  · rw [if_neg h]
    by_cases h2 : a.1 = z ∧ 0 ≤ a.2 ∧ a.2 < (k : Int)
    · rw [if_pos h2, if_pos]
      obtain ⟨x, y, z⟩ := h2
      exact ⟨x, y, by push_cast; omega⟩
    · rw [if_neg h2, if_neg]
      rintro ⟨x, y, u⟩
      push_cast at u
      refine h2 ⟨x, y, ?_⟩
      rcases Int.lt_or_le a.2 k with h3 | h3
      · exact h3
      · exact absurd (Prod.ext x (show a.2 = (k : Int) by omega)) h
def resetS (D : Dv) (z : Int) : Dv := { sortD (zstep z 2) D with last := dropTo (sortD (zstep z 2) D).last z D.size.toNat }
end Dev

section
variable {w : World} {d : Nat} {T : Nat → Prop} {D : Dv}
end
end Go.Proofs.Ythgjlofebicpiaa

/-
  Package dev: Reset, whole; Read.
-/
namespace Go.Proofs.Ythgjlofebicpiaa
open Go.RowKit Geom Zone Dev
set_option linter.unusedVariables false

namespace Dev
def resetD (D : Dv) (z : Int) : Int × Dv :=
  if D.down = true then (2, D)
  else if (turnL (fun _ z => resetZ z) D.conv D.seq D.opn D.L z).2 ≠ 0 then ((turnL (fun _ z => resetZ z) D.conv D.seq D.opn D.L z).2, { D with ill := D.ill + 1 })
  else (0, tick (resetS { D with L := (turnL (fun _ z => resetZ z) D.conv D.seq D.opn D.L z).1 } z))
end Dev
section
variable {w : World} {d : Nat} {T : Nat → Prop} {D : Dv}
end
end Go.Proofs.Ythgjlofebicpiaa

/-
  Package dev: Read; Zones.
-/
namespace Go.Proofs.Ythgjlofebicpiaa
open Go.RowKit Geom Zone Dev
set_option linter.unusedVariables false

namespace Dev
/-- what stands at a place, cached or not -/
def pageD (D : Dv) (a : Pl) : List Int :=
  match newest D.cache a with
  | some i => (D.cache.getD i (0, 0, z64)).2.2
  | none => unpg (D.last a)
def readD (D : Dv) (a : Pl) : List Int × Int × Dv :=
  if D.down = true then (z64, 2, D)
  else if readE D.conv D.soft D.seq D.size D.L a.1 a.2 ≠ 0 then (z64, readE D.conv D.soft D.seq D.size D.L a.1 a.2, { D with ill := D.ill + 1 })
  else (pageD D a, 0, D)
end Dev
/-- a page is laid into a variable of its own -/
theorem wpList_store_page (w : World) {ops : Array Oper} {rest : List Oper} {o : Oper} {a : Act} {Q : Exit → Act → World → Prop} (hgd : o.guard = none) (x y : Operand) (ho : o.op = .store 62 x y) (g : Nat) (p old : List Int) (hp : p.length = 64) (hold : old.length = 64)
    (hx : a.eval x = .pointer (some ⟨g, 0, none⟩)) (hy : a.eval y = .agg (bs p).toArray) (hb : Box w g 62 (bs old))
    (h : wpList Try.prog ops Q rest (a.put o.dst undef) (w.setRow g (bs p).toArray)) : wpList Try.prog ops Q (o :: rest) a w := by
  refine wpList_plain hgd fun K hK => ?_
  have hr := run_storeVar_row (P := Try.prog) w g 62 62 (bs old).toArray (bs p).toArray hb (by rw [List.size_toArray, bs_length, hp]; kernel_rfl) (by simp [bs_length, hp, hold]) (all_oneCell_toArray fun u hu => bs_one _ _ hu)
  unfold Oper.wp execOp
  simp only [ho, hx, hy, Instr.storeAt, Instr.sureAddr, Sem.run_bind, Sem.run_pure, Result.andThen_ok, hr]
  exact hK _ _ h
theorem run_build_page (w : World) : (Instr.build 62 #[]).run Try.prog w = .ok (.agg (bs z64).toArray) w := by
  have h8 : (sizeOf 5).run Try.prog w = .ok 1 w := by go_simp
  unfold Instr.build
  simp only [Sem.run_bind, zero_page w, Result.andThen, run_underlying Try.underlying62, h8]
  rfl
theorem wpList_build_page (w : World) {ops : Array Oper} {rest : List Oper} {o : Oper} {a : Act} {Q : Exit → Act → World → Prop} (hgd : o.guard = none) (ho : o.op = .build 62 #[])
    (h : wpList Try.prog ops Q rest (a.put o.dst (.agg (bs z64).toArray)) w) : wpList Try.prog ops Q (o :: rest) a w := by
  refine wpList_plain hgd fun K hK => ?_
  unfold Oper.wp
  simp [execOp, ho, run_build_page w, Result.andThen]
  exact hK _ _ h
abbrev zlit : Array Value := #[.int .u8 0, .int .u8 0, .int .u8 0, .int .u8 0, .int .u8 0, .int .u8 0, .int .u8 0, .int .u8 0, .int .u8 0, .int .u8 0, .int .u8 0, .int .u8 0, .int .u8 0, .int .u8 0, .int .u8 0, .int .u8 0, .int .u8 0, .int .u8 0, .int .u8 0, .int .u8 0, .int .u8 0, .int .u8 0, .int .u8 0, .int .u8 0, .int .u8 0, .int .u8 0, .int .u8 0, .int .u8 0, .int .u8 0, .int .u8 0, .int .u8 0, .int .u8 0, .int .u8 0, .int .u8 0, .int .u8 0, .int .u8 0, .int .u8 0, .int .u8 0, .int .u8 0, .int .u8 0, .int .u8 0, .int .u8 0, .int .u8 0, .int .u8 0, .int .u8 0, .int .u8 0, .int .u8 0, .int .u8 0, .int .u8 0, .int .u8 0, .int .u8 0, .int .u8 0, .int .u8 0, .int .u8 0, .int .u8 0, .int .u8 0, .int .u8 0, .int .u8 0, .int .u8 0, .int .u8 0, .int .u8 0, .int .u8 0, .int .u8 0, .int .u8 0]
theorem zlit_eq : zlit = (bs z64).toArray := rfl
section
variable {w : World} {d : Nat} {T : Nat → Prop} {D : Dv}
theorem zones_dev (hT : ∀ k, w.heap.size ≤ k → T k) (hO : DvOk D) (hI : DevIs T w d D) :
    Calls Try.prog 22 #[dp d] w fun e w' => ∃ g c, e = .returned (.slice (some ⟨g, 0, none⟩) D.n c) ∧ w'.ownsRow w.heap.size 66 2 (.slice (some ⟨g, 0, none⟩) D.n c) D.n (zc D.L) ∧ Below w.heap.size w w' := by
  have hn0 : 0 < D.n := by have := hO.ok.1; have := hO.ok.2.1; have := hO.ns; omega
  obtain ⟨gz, cz, lb, cv, nb, hD, hown, _⟩ := hI
  have hfl := hO.fit.1
  have hns := hO.ns
  have HC := Lib.hid (clone_any (some ⟨gz, 0, none⟩) D.n cz D.L w hO.nl (by omega) hn0 (Rd.own hown))
  have c5 := hD.mem.1
  clear hD hown hfl hns
  go_enter Try.func22, Try.ntmps22
  go_wp2_with fail
  refine HC.out.mono ?_
  rintro e w' ⟨g, c, rfl, h1, h2⟩
  have H := Lib.hid (And.intro h1 h2)
  clear h1 h2
  go_wp2
  go_ret
  exact ⟨g, c, rfl, H.out.1, H.out.2⟩

set_option maxRecDepth 100000 in
set_option maxHeartbeats 4000000 in
theorem read_any (a : Pl) (h64 : W64 a.1 ∧ W64 a.2) (hT : ∀ k, w.heap.size ≤ k → T k) (hO : DvOk D) (hI : DevIs T w d D) :
    Calls Try.prog 29 #[dp d, .agg #[.int .i64 a.1, .int .i64 a.2]] w fun x w' => x = .returned (.tuple #[.agg (bs (readD D a).1).toArray, .int .i64 (readD D a).2.1]) ∧ DevIs T w' d (readD D a).2.2 ∧ Fr T w w' := by
  obtain ⟨w1, hw1⟩ : ∃ w1, w1 = (w.alloc (.cells #[.int .i64 a.1, .int .i64 a.2] 68)).alloc (.cells zlit 62) := ⟨_, rfl⟩
  have hB1 : Below w.heap.size w w1 := by rw [hw1]; exact ((Below.refl _ _).alloc (Nat.le_refl _) _).alloc (by simp) _
  have hz1 : w1.heap.size = w.heap.size + 2 := by rw [hw1]; simp
  have x0 : Box w1 w.heap.size 68 [.int .i64 a.1, .int .i64 a.2] := by
    rw [hw1]; exact (Box.new w _ [.int .i64 a.1, .int .i64 a.2]).same (Below.heap_alloc _ _ _ (by simp))
  have x1 : Box w1 (w.heap.size + 1) 62 (bs z64) := by
    have := Box.new (w.alloc (.cells #[.int .i64 a.1, .int .i64 a.2] 68)) 62 (bs z64)
    rw [show (w.alloc (.cells #[.int .i64 a.1, .int .i64 a.2] 68)).heap.size = w.heap.size + 1 by simp] at this
    rw [hw1, zlit_eq]
    exact this
  have hI1 := hI.below hB1
  have hdl := hI.lt
  obtain ⟨gz, cz, lb, cv, nb, hD, hown, hcv, hm, hmn, t⟩ := id hI1
  have hfl := hO.fit.1
  have hns := hO.ns
  have hLl : D.L.length = D.n := by omega
  have HZ := Lib.hid fun w' (hb : Below w1.heap.size w1 w') => zread_any D.conv D.soft D.seq D.size D.opn a.1 a.2 (some ⟨gz, 0, none⟩) D.n cz D.L w' hLl hO.ok.some hns (((Rd.own hown).below hb).more hb.size)
  have hSO : ∀ w', Below w1.heap.size w1 w' → w'.cell? ⟨d, 0, none⟩ = some (.int .i64 D.conv) ∧ w'.cell? ⟨d, 1, none⟩ = some (.int .i64 D.soft) ∧ w'.cell? ⟨d, 2, none⟩ = some (.int .i64 D.seq) ∧ w'.cell? ⟨d, 3, none⟩ = some (.int .i64 D.size) ∧ w'.cell? ⟨d, 4, none⟩ = some (.int .i64 D.opn) ∧
      w'.cell? ⟨d, 5, none⟩ = some (.slice (some ⟨gz, 0, none⟩) D.n cz) ∧ w'.cell? ⟨w.heap.size, 0, none⟩ = some (.int .i64 a.1) ∧ w'.cell? ⟨w.heap.size, 1, none⟩ = some (.int .i64 a.2) := by
    intro w' hb
    have hDw := hD.same (hb.block _ hD.lt)
    obtain ⟨g0, g1, g2, g3, g4⟩ := hDw.geo
    exact ⟨g0, g1, g2, g3, g4, hDw.mem.1, (x0.same (hb.block _ x0.lt)).cell 0, (x0.same (hb.block _ x0.lt)).cell 1⟩
  -- what the refusal comes to, and the world behind it
  generalize hr : readD D a = r
  have HR := Lib.hid fun (w2 : World) (hb : Below w1.heap.size w1 w2) => show Calls Try.prog 54 #[dp d, .int .i64 (readE D.conv D.soft D.seq D.size D.L a.1 a.2)] w2 (fun x w' => x = .returned (.int .i64 r.2.1) ∧ DevIs T w' d r.2.2 ∧ Fr T w w' ∧ Box w' w.heap.size 68 [.int .i64 a.1, .int .i64 a.2] ∧ Box w' (w.heap.size + 1) 62 (bs z64) ∧ (w'.cell? ⟨d, 0, none⟩ = some (.int .i64 D.conv) ∧ w'.cell? ⟨d, 1, none⟩ = some (.int .i64 D.soft) ∧ w'.cell? ⟨d, 2, none⟩ = some (.int .i64 D.seq) ∧ w'.cell? ⟨d, 3, none⟩ = some (.int .i64 D.size) ∧ w'.cell? ⟨d, 4, none⟩ = some (.int .i64 D.opn) ∧
      w'.cell? ⟨d, 5, none⟩ = some (.slice (some ⟨gz, 0, none⟩) D.n cz) ∧ w'.cell? ⟨w.heap.size, 0, none⟩ = some (.int .i64 a.1) ∧ w'.cell? ⟨w.heap.size, 1, none⟩ = some (.int .i64 a.2))) from by
    have hS2 := hSO w2 hb
    have hI2 := hI1.below hb
    have hF2 : Fr T w w2 := (Fr.of_below hB1).trans (Fr.of_below hb)
    have y0 := x0.same (hb.block _ x0.lt)
    have y1 := x1.same (hb.block _ x1.lt)
    have hD2 := hD.same (hb.block _ hD.lt)
    have hS3 : ∀ v : Value, (fun w' : World => w'.cell? ⟨d, 0, none⟩ = some (.int .i64 D.conv) ∧ w'.cell? ⟨d, 1, none⟩ = some (.int .i64 D.soft) ∧ w'.cell? ⟨d, 2, none⟩ = some (.int .i64 D.seq) ∧ w'.cell? ⟨d, 3, none⟩ = some (.int .i64 D.size) ∧ w'.cell? ⟨d, 4, none⟩ = some (.int .i64 D.opn) ∧
      w'.cell? ⟨d, 5, none⟩ = some (.slice (some ⟨gz, 0, none⟩) D.n cz) ∧ w'.cell? ⟨w.heap.size, 0, none⟩ = some (.int .i64 a.1) ∧ w'.cell? ⟨w.heap.size, 1, none⟩ = some (.int .i64 a.2)) (w2.setCell ⟨d, 11, none⟩ v) := fun v => by
      have e : ∀ (b o : Nat), (b ≠ d ∨ o ≠ 11) → (w2.setCell ⟨d, 11, none⟩ v).cell? ⟨b, o, none⟩ = w2.cell? ⟨b, o, none⟩ := fun b o h => World.cell?_setCell_other _ _ _ _ (fun e => by injection e with e1 e2; rcases h with h | h <;> omega)
      obtain ⟨s0, s1, s2, s3, s4, s5, s6, s7⟩ := hS2
      exact ⟨(e _ _ (.inr (by omega))).trans s0, (e _ _ (.inr (by omega))).trans s1, (e _ _ (.inr (by omega))).trans s2, (e _ _ (.inr (by omega))).trans s3, (e _ _ (.inr (by omega))).trans s4, (e _ _ (.inr (by omega))).trans s5, (e _ _ (.inr (by omega))).trans s6, (e _ _ (.inr (by omega))).trans s7⟩
    rw [← hr]
    unfold readD
    by_cases hd : D.down = true
    · rw [if_pos hd]
      rw [hd] at hD2
      exact (refusal_down _ hD2).mono fun e w' ⟨h1, h2⟩ => ⟨h1, h2 ▸ hI2, h2 ▸ hF2, h2 ▸ y0, h2 ▸ y1, h2 ▸ hS2⟩
    · rw [if_neg hd]
      have hd' : D.down = false := by simpa using hd
      rw [hd'] at hD2
      by_cases he : readE D.conv D.soft D.seq D.size D.L a.1 a.2 = 0
      · rw [if_neg (fun h => h he), he]
        exact (refusal_ok hD2).mono fun e w' ⟨h1, h2⟩ => ⟨h1, h2 ▸ hI2, h2 ▸ hF2, h2 ▸ y0, h2 ▸ y1, h2 ▸ hS2⟩
      · rw [if_pos he]
        exact (refusal_no _ he hO.ill0 hO.ill1 hD2).mono fun e w' ⟨h1, h2⟩ => ⟨h1, h2 ▸ hI2.set11 _, h2 ▸ hF2.setCell _ _ hI2.at, h2 ▸ y0.same (heap_setCell_other _ _ _ _ (show w.heap.size ≠ d by omega)), h2 ▸ y1.same (heap_setCell_other _ _ _ _ (show w.heap.size + 1 ≠ d by omega)), h2 ▸ hS3 _⟩
  have SO := Lib.hid hSO
  have HRR := Lib.hid hr
  clear hSO hr hI hI1 hD hown hcv hm hmn t hfl hns hLl x0 x1 hB1
  generalize readE D.conv D.soft D.seq D.size D.L a.1 a.2 = re at HZ HR
  go_enter Try.func29, Try.ntmps29
  go_wp2_with fail
  rw [← hw1]
  clear hw1
  apply wp_meetW (fun w' => DevIs T w' d r.2.2 ∧ Fr T w w' ∧ Box w' w.heap.size 68 [.int .i64 a.1, .int .i64 a.2] ∧ Box w' (w.heap.size + 1) 62 (bs z64))
  · go_region_held3 (fun w' => w'.cell? ⟨d, 0, none⟩ = some (.int .i64 D.conv) ∧ w'.cell? ⟨d, 1, none⟩ = some (.int .i64 D.soft) ∧ w'.cell? ⟨d, 2, none⟩ = some (.int .i64 D.seq) ∧ w'.cell? ⟨d, 3, none⟩ = some (.int .i64 D.size) ∧ w'.cell? ⟨d, 4, none⟩ = some (.int .i64 D.opn) ∧
      w'.cell? ⟨d, 5, none⟩ = some (.slice (some ⟨gz, 0, none⟩) D.n cz) ∧ w'.cell? ⟨w.heap.size, 0, none⟩ = some (.int .i64 a.1) ∧ w'.cell? ⟨w.heap.size, 1, none⟩ = some (.int .i64 a.2))
      (first | exact SO.out _ (Below.refl _ _).drew | exact SO.out _ B2 | exact K5)
      ((first
        | ((with_reducible refine (HZ.out _ (Below.refl _ _).drew).mono ?_); rintro x w2 ⟨rfl, hb2⟩; have B2 : Below w1.heap.size w1 w2 := bthen (Below.refl _ _).drew hb2)
        | ((with_reducible refine (HR.out _ B2).mono ?_); rintro x w3 ⟨rfl, k1, k2, k3, k4, K5⟩)))
    all_goals exact ⟨w3, ⟨k1, k2, k3, k4⟩, rfl, rfl⟩
  intro w3 h3
  obtain ⟨hI3, hF3, y0, y1⟩ := h3
  obtain ⟨m8, hm8, hsz8⟩ := big_size (P := Try.prog) (t := 62) (s := 64) (by kernel_rfl)
  have hm80 : ¬ m8 = 0 := by omega
  have HM8 := Lib.hid hm8
  have hTb : T (w.heap.size + 1) := hT _ (by omega)
  -- what is handed back lies in the variable
  have HB := Lib.hid fun (W : World) (p : List Int) (hp : p.length = 64) (hb : Box W (w.heap.size + 1) 62 (bs p)) => big_load0 Try.prog (w.heap.size + 1) 0 (bs p) m8 (by rw [bs_length, hp, HM8.out]) W (fun j v hj => by rw [Nat.zero_add]; exact (hb.cell j).trans hj)
  have HDV := Lib.hid fun (W : World) (D' : Dv) (p : Array Value) (old : List Int) (hIW : DevIs T W d D') (hFW : Fr T w W) (hbW : Box W (w.heap.size + 1) 62 (bs old)) => show DevIs T (W.setRow (w.heap.size + 1) p) d D' ∧ Fr T w (W.setRow (w.heap.size + 1) p) from by
    obtain ⟨gz', cz', lb', cv', nb', hD, hown, hcv, hm, hmn, t⟩ := hIW
    have e : ∀ x, x ≠ w.heap.size + 1 → (W.setRow (w.heap.size + 1) p).heap[x]? = W.heap[x]? := fun x hx => setRow_other _ _ _ _ hx
    have hDB : Box W d 82 (dcs D'.conv D'.soft D'.seq D'.size D'.opn (.slice (some ⟨gz', 0, none⟩) D'.n cz') lb' cv' nb' D'.down D'.armed D'.ill).toList := hD
    exact ⟨⟨gz', cz', lb', cv', nb', hD.same (e _ (hDB.ne hbW (by decide))), own_same hown fun g hg => e g (fun h => hbW.ne_row hown hg (by decide) h.symm), own_same hcv fun g hg => e g (fun h => hbW.ne_row hcv hg (by decide) h.symm), hm.same (e _ (fun h => hbW.ne_map hm h.symm)), hmn.same (e _ (fun h => hbW.ne_map hmn h.symm)), t⟩, hFW.setRow _ _ hTb⟩
  clear hm8
  by_cases he : r.2.1 = 0
  · have hre : r = (pageD D a, 0, D) := by
      rw [← HRR.out] at he ⊢
      unfold readD at he ⊢
      split
      · rename_i h1
        rw [if_pos h1] at he
        exact absurd he (by simp)
      · rename_i h1
        rw [if_neg h1] at he
        split
        · rename_i h2
          rw [if_pos h2] at he
          exact absurd he h2
        · rfl
    clear HRR HR
    subst hre
    clear he
    simp only at hI3
    obtain ⟨gz3, cz3, lb3, cv3, nb3, hD3, hown3, hcv3, hm3, hmn3, t3⟩ := id hI3
    obtain ⟨A3, cap3, rfl⟩ := own_slice hcv3
    have hcapb := own_cap hcv3
    have hcl := hO.cl
    have c6 := hD3.mem.2.1
    have c7 := hD3.mem.2.2.1
    have c8 := hD3.mem.2.2.2
    have a0 : w3.cell? ⟨w.heap.size, 0, none⟩ = some (.int .i64 a.1) := y0.cell 0
    have a1 : w3.cell? ⟨w.heap.size, 1, none⟩ = some (.int .i64 a.2) := y0.cell 1
    have hzi : ∀ w' : World, (zeroValue 3).run Try.prog w' = .ok (.int .i64 0) w' := fun w' => by go_simp
    have hlk : ∀ q : Nat, (Instr.lookup 80 (.map (some nb3)) (.agg #[.int .i64 a.1, .int .i64 a.2]) true).run Try.prog (w3.drewN q) = .ok (.tuple #[((newestV D.cache a).getD (.int .i64 0)), .bool (newestV D.cache a).isSome]) (w3.drewN q) :=
      fun q => (hmn3.same (w' := w3.drewN q) rfl).look_ok (a := a) Try.underlying80 (hzi _) h64.1 h64.2
    have HK := Lib.hid (And.intro hI3 (And.intro hF3 (And.intro y1 (And.intro hD3 (And.intro hcv3 (And.intro hm3 (And.intro hO h64)))))))
    cases hnw : newest D.cache a with
    | none =>
      have e1 : newestV D.cache a = none := by unfold newestV; rw [hnw]; rfl
      rw [e1] at hlk
      simp only [Option.getD_none, Option.isSome_none] at hlk
      have hpg := unpg_get (hO.pages a)
      have hpd : pageD D a = unpg (D.last a) := by unfold pageD; rw [hnw]
      have hlk2 : ∀ q : Nat, (Instr.lookup 78 (.map (some lb3)) (.agg #[.int .i64 a.1, .int .i64 a.2]) false).run Try.prog ((w3.drewN q).drew) = .ok (.agg (bs (unpg (D.last a))).toArray) ((w3.drewN q).drew) := fun q => by
        have := (hm3.same (w' := (w3.drewN q).drew) rfl).look (a := a) Try.underlying78 (zero_page _) h64.1 h64.2
        rw [hpg.1] at this
        exact this
      have HP := Lib.hid (And.intro hpd hpg.2)
      have HW := Lib.hid fun q : Nat => show (w3.drewN q).cell? ⟨d, 6, none⟩ = some (.map (some lb3)) ∧ (w3.drewN q).cell? ⟨w.heap.size, 0, none⟩ = some (.int .i64 a.1) ∧ (w3.drewN q).cell? ⟨w.heap.size, 1, none⟩ = some (.int .i64 a.2) ∧ (Instr.lookup 78 (.map (some lb3)) (.agg #[.int .i64 a.1, .int .i64 a.2]) false).run Try.prog ((w3.drewN q).drew) = .ok (.agg (bs (unpg (D.last a))).toArray) ((w3.drewN q).drew) ∧
          DevIs T (w3.drewN q) d D ∧ Fr T w (w3.drewN q) ∧ Box (w3.drewN q) (w.heap.size + 1) 62 (bs z64) from ⟨c6, a0, a1, hlk2 q, hI3, hF3.drewN q, y1⟩
      clear hI3 hF3 y0 y1 hD3 hown3 hcv3 hm3 hmn3 t3 hnw e1 hpg hpd hO h64 hT hlk2
      go_wp2_with fail
      go_quiet (fail)
      obtain ⟨d6, b0, b1, hl4, hI4, hF4, y4⟩ := HW.out nq
      generalize w3.drewN nq = W4 at d6 b0 b1 hl4 hI4 hF4 y4 ⊢
      have H4 := Lib.hid (And.intro hI4 (And.intro hF4 y4))
      clear hI4 hF4 y4
      go_wp2_with fail
      go_still_tail 6, (by kernel_rfl)
      change wpList _ _ _ _ _ W4.drew
      refine wpList_store_page _ (o := ⟨none, .store _ _ _, _, _, _, _⟩) rfl _ _ rfl (w.heap.size + 1) (unpg (D.last a)) z64 HP.out.2 rfl rfl rfl H4.out.2.2 ?_
      have hbF : Box (W4.drew.setRow (w.heap.size + 1) (bs (unpg (D.last a))).toArray) (w.heap.size + 1) 62 (bs (unpg (D.last a))) := setRow_heap W4.drew _ _ _ _ _ H4.out.2.2
      have hldF := HB.out _ _ HP.out.2 hbF
      have KF := Lib.hid (HDV.out W4.drew D (bs (unpg (D.last a))).toArray z64 H4.out.1 H4.out.2.1.drew H4.out.2.2)
      generalize W4.drew.setRow (w.heap.size + 1) (bs (unpg (D.last a))).toArray = W5 at hbF hldF KF ⊢
      have HbF := Lib.hid hbF
      clear hbF d6 b0 b1 hl4
      try go_frame
      go_wp2
      exact bodyPost_ret (v := .tuple #[.agg (bs (unpg (D.last a))).toArray, .int .i64 0]) (by simp [results, Try.results29, go_sem, hsz8, hldF]) rfl ⟨by rw [HP.out.1], KF.out.1, KF.out.2⟩
    | some i =>
      have hil := newest_lt hnw
      have e1 : newestV D.cache a = some (.int .i64 (i : Int)) := by unfold newestV; rw [hnw]; rfl
      rw [e1] at hlk
      simp only [Option.getD_some, Option.isSome_some] at hlk
      have hck : D.cache[i]? = some (D.cache.getD i (0, 0, z64)) := by simp [hil]
      have hpd : pageD D a = (D.cache.getD i (0, 0, z64)).2.2 := by unfold pageD; rw [hnw]
      have hpl : (D.cache.getD i (0, 0, z64)).2.2.length = 64 := hO.wok _ (List.mem_of_getElem? hck)
      generalize D.cache.getD i (0, 0, z64) = c at hck hpd hpl
      obtain ⟨gc, rfl, _, hgw⟩ := own_at hcv3 (by omega)
      have hRg : w3.rangeAt gc (i * 66 + 2) (bs c.2.2) := fun j v hj => by
        have := wcs_get hO.wok hck (j + 2) v (by show (wc c)[j + 1 + 1]? = some v; exact hj)
        have h2 := (Rd.own hcv3).cell0 this
        rwa [show i * 66 + (j + 2) = i * 66 + 2 + j by omega] at h2
      have hlm : D.cache.length ≤ maxLen := by unfold maxLen; omega
      unfold maxLen at hlm
      have HP := Lib.hid (And.intro hpd hpl)
      have HW := Lib.hid fun q : Nat => show (w3.drewN q).cell? ⟨d, 7, none⟩ = some (.slice (some ⟨gc, 0, none⟩) D.cache.length cap3) ∧ (loadCellsFrom ⟨gc, i * 66 + 2, none⟩ 0 m8 #[]).run Try.prog (w3.drewN q) = .ok (bs c.2.2).toArray (w3.drewN q) ∧
          DevIs T (w3.drewN q) d D ∧ Fr T w (w3.drewN q) ∧ Box (w3.drewN q) (w.heap.size + 1) 62 (bs z64) from ⟨c7, big_load0 Try.prog gc (i * 66 + 2) (bs c.2.2) m8 (by rw [bs_length, hpl, HM8.out]) _ hRg, hI3, hF3.drewN q, y1⟩
      have hiI : (i : Int) < (D.cache.length : Int) := by omega
      clear hI3 hF3 y0 y1 hD3 hown3 hcv3 hm3 hmn3 t3 hnw e1 hpd hpl hO h64 hT hRg hck
      go_wp2_with fail
      go_quiet (fail)
      obtain ⟨d7, hl4, hI4, hF4, y4⟩ := HW.out nq
      generalize w3.drewN nq = W4 at d7 hl4 hI4 hF4 y4 ⊢
      have H4 := Lib.hid (And.intro hI4 (And.intro hF4 y4))
      have hbF : Box (W4.setRow (w.heap.size + 1) (bs c.2.2).toArray) (w.heap.size + 1) 62 (bs c.2.2) := setRow_heap W4 _ _ _ _ _ y4
      have hldF := HB.out _ _ HP.out.2 hbF
      have KF := Lib.hid (HDV.out W4 D (bs c.2.2).toArray z64 hI4 hF4 y4)
      clear hI4 hF4 y4 hbF
      go_wp2_with (with_reducible refine wpList_store_page _ (o := ⟨none, .store _ _ _, _, _, _, _⟩) rfl _ _ rfl (w.heap.size + 1) c.2.2 z64 HP.out.2 rfl rfl rfl H4.out.2.2 ?_)
      exact bodyPost_ret (v := .tuple #[.agg (bs c.2.2).toArray, .int .i64 0]) (by simp [results, Try.results29, go_sem, hsz8, hldF]) rfl ⟨by rw [HP.out.1], KF.out.1, KF.out.2⟩
  · have hq : (r.2.1 != 0) = true := by simpa using he
    have hz1' : r.1 = z64 := by
      rw [← HRR.out] at he ⊢
      unfold readD at he ⊢
      split
      · rfl
      · split
        · rfl
        · rename_i h1 h2
          rw [if_neg h1, if_neg h2] at he
          exact absurd rfl he
    obtain ⟨k1, k2⟩ := HDV.out w3 _ (bs z64).toArray z64 hI3 hF3 y1
    have hb4 : Box (w3.setRow (w.heap.size + 1) (bs z64).toArray) (w.heap.size + 1) 62 (bs z64) := setRow_heap _ _ _ _ _ _ y1
    have hld := HB.out _ z64 rfl hb4
    have K := Lib.hid (And.intro k1 (And.intro k2 hz1'))
    have Y1 := Lib.hid y1
    generalize hre : r.2.1 = re' at *
    have HRE := Lib.hid hre
    clear k1 k2 hz1' hI3 hF3 y0 y1 hb4 he hre
    go_wp2_with (first
      | (with_reducible refine wpList_build_page _ (o := ⟨_, .build _ _, _, _, _, _⟩) rfl rfl ?_)
      | (with_reducible refine wpList_store_page _ (o := ⟨none, .store _ _ _, _, _, _, _⟩) rfl _ _ rfl (w.heap.size + 1) z64 z64 rfl rfl rfl rfl Y1.out ?_))
    exact bodyPost_ret (v := .tuple #[.agg (bs z64).toArray, .int .i64 re']) (by simp [results, Try.results29, go_sem, hsz8, hld]) rfl ⟨by rw [K.out.2.2, HRE.out], K.out.1, K.out.2.1⟩
end
end Go.Proofs.Ythgjlofebicpiaa

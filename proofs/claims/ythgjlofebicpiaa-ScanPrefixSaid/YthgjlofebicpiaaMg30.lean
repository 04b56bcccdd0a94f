/-
  DevN DevO DevP DevQ DevR
-/
import Derived.Test.YthgjlofebicpiaaMg29
/-
  Package dev: command; Write, Flush, Reset, Finish.
-/
namespace Go.Proofs.Ythgjlofebicpiaa
open Go.RowKit Geom Zone Dev
set_option linter.unusedVariables false

namespace Dev
/-- one more command is done -/
def tick (D : Dv) : Dv := if 0 < D.armed then { D with armed := D.armed - 1, down := D.armed - 1 == 0 } else D
end Dev

section
variable {w : World} {d : Nat} {T : Nat → Prop} {D : Dv}
theorem DevIs.set9_10 (h : DevIs T w d D) (b : Bool) (a : Int) : DevIs T ((w.setCell ⟨d, 10, none⟩ (.int .i64 a)).setCell ⟨d, 9, none⟩ (.bool b)) d { D with armed := a, down := b } := by
  obtain ⟨gz, cz, lb, cv, nb, hD, hown, hcv, hm, hmn, t1, t2, t3, t4, t5⟩ := h
  have e : ∀ x, x ≠ d → ((w.setCell ⟨d, 10, none⟩ (.int .i64 a)).setCell ⟨d, 9, none⟩ (.bool b)).heap[x]? = w.heap[x]? := fun x hx => (heap_setCell_other _ _ _ _ hx).trans (heap_setCell_other _ _ _ _ hx)
  exact ⟨gz, cz, lb, cv, nb, (hD.set10 a).set9 b, own_same hown fun g hg => e g (fun h => hD.ne_row hown hg (by decide) h.symm), own_same hcv fun g hg => e g (fun h => hD.ne_row hcv hg (by decide) h.symm), hm.same (e _ (fun h => hD.ne_map hm h.symm)), hmn.same (e _ (fun h => hD.ne_map hmn h.symm)), t1, t2, t3, t4, t5⟩
theorem DevIs.set11 (h : DevIs T w d D) (a : Int) : DevIs T (w.setCell ⟨d, 11, none⟩ (.int .i64 a)) d { D with ill := a } := by
  obtain ⟨gz, cz, lb, cv, nb, hD, hown, hcv, hm, hmn, t1, t2, t3, t4, t5⟩ := h
  have e : ∀ x, x ≠ d → (w.setCell ⟨d, 11, none⟩ (.int .i64 a)).heap[x]? = w.heap[x]? := fun x hx => heap_setCell_other _ _ _ _ hx
  exact ⟨gz, cz, lb, cv, nb, hD.set11 a, own_same hown fun g hg => e g (fun h => hD.ne_row hown hg (by decide) h.symm), own_same hcv fun g hg => e g (fun h => hD.ne_row hcv hg (by decide) h.symm), hm.same (e _ (fun h => hD.ne_map hm h.symm)), hmn.same (e _ (fun h => hD.ne_map hmn h.symm)), t1, t2, t3, t4, t5⟩
theorem DevIs.at (h : DevIs T w d D) : T d := by obtain ⟨gz, cz, lb, cv, nb, hD, hown, hcv, hm, hmn, t1, _⟩ := h; exact t1
theorem DevIs.lt (h : DevIs T w d D) : d < w.heap.size := by obtain ⟨gz, cz, lb, cv, nb, hD, _⟩ := h; exact hD.lt

set_option maxRecDepth 100000 in
theorem command_down (l : Value) (e : Int) (f : Value) (hI : DevIs T w d D) (hd : D.down = true) :
    Calls Try.prog 44 #[dp d, l, .int .i64 e, f] w fun x w' => x = .returned (.int .i64 2) ∧ w = w' := by
  obtain ⟨gz, cz, lb, cv, nb, hD, _⟩ := hI
  rw [hd] at hD
  have HR := Lib.hid (refusal_down e hD)
  go_enter Try.func44, Try.ntmps44
  go_wp2_with fail
  refine HR.out.mono ?_
  rintro x w1 ⟨rfl, rfl⟩
  go_wp2
  go_ret
  exact ⟨rfl, rfl⟩
set_option maxRecDepth 100000 in
theorem command_no (l : Value) (e : Int) (f : Value) (he : e ≠ 0) (hO : DvOk D) (hI : DevIs T w d D) (hd : D.down = false) :
    Calls Try.prog 44 #[dp d, l, .int .i64 e, f] w fun x w' => x = .returned (.int .i64 e) ∧ DevIs T w' d { D with ill := D.ill + 1 } ∧ Fr T w w' := by
  have hI0 := hI
  obtain ⟨gz, cz, lb, cv, nb, hD, _⟩ := hI
  rw [hd] at hD
  have HR := Lib.hid (refusal_no e he hO.ill0 hO.ill1 hD)
  have HI := Lib.hid hI0
  have hq : (e != 0) = true := by simpa using he
  clear hD hI0 he
  go_enter Try.func44, Try.ntmps44
  go_wp2_with fail
  refine HR.out.mono ?_
  rintro x w1 ⟨rfl, rfl⟩
  go_wp2
  go_ret
  exact ⟨rfl, HI.out.set11 _, Fr.of_setCell _ _ _ HI.out.at⟩
set_option maxRecDepth 100000 in
set_option maxHeartbeats 1000000 in
theorem command_ok (g n c : Nat) (F : FuncId) (cap2 : Array Value) (D' : Dv) (hO : DvOk D) (hI : DevIs T w d D) (hd : D.down = false) (hd' : D'.down = false) (ha : 0 ≤ D'.armed) (ha1 : D'.armed ≤ 9223372036854775807)
    (hE : ∀ (args : Array Value) (w' : World), (callFunc F args).run Try.prog w' = .ok (.enter F args) w')
    (hF : Calls Try.prog F cap2 (w.setCell ⟨d, 5, none⟩ (.slice (some ⟨g, 0, none⟩) n c)) fun x w' => x = .returned (.tuple #[]) ∧ DevIs T w' d D' ∧ Fr T (w.setCell ⟨d, 5, none⟩ (.slice (some ⟨g, 0, none⟩) n c)) w') :
    Calls Try.prog 44 #[dp d, .slice (some ⟨g, 0, none⟩) n c, .int .i64 0, .func (.func F) #[] cap2] w fun x w' => x = .returned (.int .i64 0) ∧ DevIs T w' d (tick D') ∧ Fr T w w' := by
  have hI0 := hI
  obtain ⟨gz, cz, lb, cv, nb, hD, _⟩ := hI
  have c5 := hD.mem.1
  have f5 := hD.frozen 5
  rw [hd] at hD
  have HR := Lib.hid (refusal_ok hD)
  have HI := Lib.hid hI0
  have HF := Lib.hid hF
  clear hD hI0 hF
  go_enter Try.func44, Try.ntmps44
  go_wp2_with fail
  refine HR.out.mono ?_
  rintro x w1 ⟨rfl, rfl⟩
  go_wp2_with fail
  refine HF.out.mono ?_
  rintro x w2 ⟨rfl, hI2, hF2⟩
  have hF3 : Fr T w w2 := (Fr.of_setCell w ⟨d, 5, none⟩ (.slice (some ⟨g, 0, none⟩) n c) HI.out.at).trans hF2
  obtain ⟨gz2, cz2, lb2, cv2, nb2, hD2, _⟩ := id hI2
  obtain ⟨c9, c10, c11⟩ := hD2.num
  have f9 := hD2.frozen 9
  have f10 := hD2.frozen 10
  have H2 := Lib.hid (And.intro hI2 hF3)
  clear hI2 hF3 hF2 hD2
  by_cases h0 : 0 < D'.armed
  · have ht : decide (0 < D'.armed) = true := decide_eq_true h0
    have HT := Lib.hid (show tick D' = { D' with armed := D'.armed - 1, down := D'.armed - 1 == 0 } from if_pos h0)
    generalize hA : D'.armed = a at c10 ht ha ha1 h0 HT
    have HA := Lib.hid hA
    clear hA
    go_wp2
    go_ret
    rw [HT.out]
    exact ⟨rfl, H2.out.1.set9_10 _ _, (H2.out.2.setCell _ _ HI.out.at).setCell _ _ HI.out.at⟩
  · have ht : decide (0 < D'.armed) = false := decide_eq_false h0
    have HT := Lib.hid (show tick D' = D' from if_neg h0)
    clear h0 ha ha1
    go_wp2
    go_ret
    rw [HT.out]
    exact ⟨rfl, H2.out.1, H2.out.2⟩
end
end Go.Proofs.Ythgjlofebicpiaa

/-
  Package dev: Write.
-/
namespace Go.Proofs.Ythgjlofebicpiaa
open Go.RowKit Geom Zone Dev
set_option linter.unusedVariables false

theorem fill_written (z o : Int) (p : List Int) (hp : p.length = 64) (pl : Nat → Option (Nat × Nat)) (h0 : pl 0 = some (0, 2)) (h1 : pl 1 = some (2, 64)) :
    Instr.fill pl (wc (0, 0, z64)).toArray [(0, .agg #[.int .i64 z, .int .i64 o]), (1, .agg (bs p).toArray)] = some (wc (z, o, p)).toArray := by
  have hl : (wc ((0, 0, z64) : Wr)).length = 66 := wc_length rfl
  have hb : (bs p).length = 64 := by rw [bs_length, hp]
  have e1 : (Value.agg #[.int .i64 z, .int .i64 o]).cells = #[.int .i64 z, .int .i64 o] := rfl
  have e2 : (Value.agg (bs p).toArray).cells = (bs p).toArray := rfl
  have hf := foldl_set_off 2 (bs p) (bs z64) 0 [.int .i64 z, .int .i64 o] rfl (by rw [hb]; exact Nat.le_refl _)
  have hd : (bs z64).drop (bs p).length = [] := List.drop_eq_nil_of_le (by rw [hb]; exact Nat.le_refl _)
  rw [hd, List.append_nil] at hf
  have hw : (wc ((0, 0, z64) : Wr)) = .int .i64 0 :: .int .i64 0 :: bs z64 := rfl
  unfold Instr.fill
  simp only [h0, e1]
  rw [if_neg (by simp [hl])]
  unfold Instr.fill
  simp only [h1, e2]
  rw [if_neg (by simp [hl, hb])]
  unfold Instr.fill
  rw [hw]
  have e3 : (Array.foldl (fun (cs : Array Value) (x : Value × Nat) => cs.setIfInBounds (0 + x.2) x.1) (Value.int .i64 0 :: .int .i64 0 :: bs z64).toArray #[Value.int .i64 z, .int .i64 o].zipIdx) = ([Value.int .i64 z, .int .i64 o] ++ bs z64).toArray := by
    rw [← Array.foldl_toList, Array.toList_zipIdx]
    simp [List.zipIdx_cons]
  rw [e3, ← Array.foldl_toList, Array.toList_zipIdx, hf]
  rfl
theorem run_build_written (w : World) (z o : Int) (p : List Int) (hp : p.length = 64) :
    (Instr.build 84 #[(0, .agg #[.int .i64 z, .int .i64 o]), (1, .agg (bs p).toArray)]).run Try.prog w = .ok (.agg (wc (z, o, p)).toArray) w := by
  have hz : (zeroValue 84).run Try.prog w = .ok (.agg (wc (0, 0, z64)).toArray) w := (zero_of_info (P := Try.prog) (t := 84) (v := .agg (wc (0, 0, z64)).toArray) (n := 66) (by kernel_rfl)).1 w
  unfold Instr.build
  simp only [Sem.run_bind, hz, Result.andThen, run_underlying Try.underlying84]
  have h36 : ∀ w : World, (sizeOf 68).run Try.prog w = .ok 2 w := by intro w; go_simp
  have h38 : ∀ w : World, (sizeOf 62).run Try.prog w = .ok 64 w := by intro w; go_simp
  simp only [List.mapM_toArray, List.mapM_cons, List.mapM_nil, Sem.run_bind, Sem.run_pure, h36, h38, Result.andThen, Sem.run_map]
  have e : Instr.fill (fun x => #[((0, 2) : Nat × Nat), (2, 64)][x]?) (Value.agg (wc (0, 0, z64)).toArray).cells [(0, Value.agg #[Value.int .i64 z, Value.int .i64 o]), (1, Value.agg (bs p).toArray)] = some (wc (z, o, p)).toArray := fill_written z o p hp _ rfl rfl
  rw [e]
  rfl

theorem wpList_build_written (w : World) {ops : Array Oper} {rest : List Oper} {o : Oper} {a : Act} {Q : Exit → Act → World → Prop} (hgd : o.guard = none) (x y : Operand) (ho : o.op = .build 84 #[(0, x), (1, y)]) (z f : Int) (p : List Int) (hp : p.length = 64)
    (hx : a.eval x = .agg #[.int .i64 z, .int .i64 f]) (hy : a.eval y = .agg (bs p).toArray) (h : wpList Try.prog ops Q rest (a.put o.dst (.agg (wc (z, f, p)).toArray)) w) : wpList Try.prog ops Q (o :: rest) a w := by
  refine wpList_plain hgd fun K hK => ?_
  unfold Oper.wp
  simp [execOp, ho, hx, hy, run_build_written w z f p hp, Result.andThen]
  exact hK _ _ h
section
variable {w : World} {d : Nat} {conv soft seq size opn : Int} {zv : Value} {lb : Nat} {cv : Value} {nb : Nat} {down : Bool} {armed ill : Int}
set_option maxRecDepth 100000 in
set_option maxHeartbeats 1000000 in
theorem write1_any (bd ba bp : Nat) (z o : Int) (p : List Int) (l : List Wr) (n2 : Nat) (hp : p.length = 64) (hl : WOk l) (h1 : W64 z) (h2 : W64 o) (hll : l.length ≤ 100000) (hn2 : n2 ≤ 100000) (hD : DBlk w d conv soft seq size opn zv lb cv nb down armed ill)
    (hcv : w.ownsRow 0 84 66 cv l.length (wcs l)) (hm : MapIs w nb n2 (newestV l)) (x0 : Box w bd 27 [dp d]) (x1 : Box w ba 68 [.int .i64 z, .int .i64 o]) (x2 : Box w bp 62 (bs p)) :
    Calls Try.prog 45 #[.pointer (some ⟨bd, 0, none⟩), .pointer (some ⟨ba, 0, none⟩), .pointer (some ⟨bp, 0, none⟩)] w fun x w' => x = .returned (.tuple #[]) ∧ ∃ cv', DBlk w' d conv soft seq size opn zv lb cv' nb down armed ill ∧
      w'.ownsRow 0 84 66 cv' (l ++ [(z, o, p)]).length (wcs (l ++ [(z, o, p)])) ∧ MapIs w' nb (n2 + 1) (newestV (l ++ [(z, o, p)])) ∧ Fr (fun k => k = d ∨ k = nb ∨ cv.ownBlock = some k) w w' ∧ (cv'.ownBlock = cv.ownBlock ∨ ∃ g, cv'.ownBlock = some g ∧ w.heap.size ≤ g) := by
  have HH := Lib.hid (hold_any (z, o, p) l n2 hp hl h1 h2 hll hn2 hD hcv hm)
  have c0 : w.cell? ⟨bd, 0, none⟩ = some (dp d) := x0.cell 0
  have a0 : w.cell? ⟨ba, 0, none⟩ = some (.int .i64 z) := x1.cell 0
  have a1 : w.cell? ⟨ba, 1, none⟩ = some (.int .i64 o) := x1.cell 1
  obtain ⟨m8, hm8, hsz8⟩ := big_size (P := Try.prog) (t := 62) (s := 64) (by kernel_rfl)
  have hbm : (bs p).length = m8 := by rw [bs_length, hp, hm8]
  have hld := big_load0 Try.prog bp 0 (bs p) m8 hbm w (fun j v hj => by rw [Nat.zero_add]; exact (x2.cell j).trans hj)
  have HM := Lib.hid hm8
  clear hm8 hD hcv hm x0 x1 x2 hl
  go_enter Try.func45, Try.ntmps45
  go_wp2_with (with_reducible refine wpList_build_written _ (o := ⟨some 6, _, _, _, _, _⟩) rfl _ _ rfl z o p hp rfl rfl ?_)
  refine HH.out.mono ?_
  rintro x w' ⟨rfl, h⟩
  have H := Lib.hid h
  clear h
  go_wp2
  go_end0
  exact ⟨rfl, H.out⟩
end
end Go.Proofs.Ythgjlofebicpiaa

/-
  Package dev: Write, whole.
-/
namespace Go.Proofs.Ythgjlofebicpiaa
open Go.RowKit Geom Zone Dev
set_option linter.unusedVariables false

namespace Dev
def writeD (D : Dv) (c : Wr) : Int × Dv :=
  if D.down = true then (2, D)
  else if (writeL D.conv D.soft D.seq D.size D.opn D.L c.1 c.2.1).2 ≠ 0 then ((writeL D.conv D.soft D.seq D.size D.opn D.L c.1 c.2.1).2, { D with ill := D.ill + 1 })
  else (0, tick { D with L := (writeL D.conv D.soft D.seq D.size D.opn D.L c.1 c.2.1).1, cache := D.cache ++ [c] })
end Dev

section
variable {w : World} {d : Nat} {T : Nat → Prop} {D : Dv}
theorem DevIs.below {w' : World} (h : DevIs T w d D) (hb : Below w.heap.size w w') : DevIs T w' d D := by
  obtain ⟨gz, cz, lb, cv, nb, hD, hown, hcv, hm, hmn, t⟩ := h
  exact ⟨gz, cz, lb, cv, nb, hD.same (hb.block _ hD.lt), own_same hown fun g hg => hb.block g (hown.lt g hg).2, own_same hcv fun g hg => hb.block g (hcv.lt g hg).2, hm.same (hb.block _ hm.lt), hmn.same (hb.block _ hmn.lt), t⟩

set_option maxRecDepth 100000 in
set_option maxHeartbeats 4000000 in
theorem write_any (c : Wr) (hc : c.2.2.length = 64) (h64 : W64 c.1 ∧ W64 c.2.1) (hT : ∀ k, w.heap.size ≤ k → T k) (hO : DvOk D) (hcl : D.cache.length < 100000) (hI : DevIs T w d D) :
    Calls Try.prog 24 #[dp d, .agg #[.int .i64 c.1, .int .i64 c.2.1], .agg (bs c.2.2).toArray] w fun x w' => x = .returned (.int .i64 (writeD D c).1) ∧ DevIs T w' d (writeD D c).2 ∧ Fr T w w' := by
  have hn0 : 0 < D.n := by have := hO.ok.1; have := hO.ok.2.1; have := hO.ns; omega
  obtain ⟨w1, hw1⟩ : ∃ w1, w1 = ((w.alloc (.cells #[dp d] 27)).alloc (.cells #[.int .i64 c.1, .int .i64 c.2.1] 68)).alloc (.cells (bs c.2.2).toArray 62) := ⟨_, rfl⟩
  have hB1 : Below w.heap.size w w1 := by rw [hw1]; exact (((Below.refl _ _).alloc (Nat.le_refl _) _).alloc (by simp) _).alloc (by simp; omega) _
  have hz1 : w1.heap.size = w.heap.size + 3 := by rw [hw1]; simp
  have x0 : Box w1 w.heap.size 27 [dp d] := by
    rw [hw1]; exact (Box.new w _ [dp d]).same ((Below.heap_alloc _ _ _ (by simp; omega)).trans (Below.heap_alloc _ _ _ (by simp)))
  have x1 : Box w1 (w.heap.size + 1) 68 [.int .i64 c.1, .int .i64 c.2.1] := by
    have := Box.new (w.alloc (.cells #[dp d] 27)) 68 [.int .i64 c.1, .int .i64 c.2.1]
    rw [show (w.alloc (.cells #[dp d] 27)).heap.size = w.heap.size + 1 by simp] at this
    rw [hw1]
    exact this.same (Below.heap_alloc _ _ _ (by simp))
  have x2 : Box w1 (w.heap.size + 2) 62 (bs c.2.2) := by
    have := Box.new ((w.alloc (.cells #[dp d] 27)).alloc (.cells #[.int .i64 c.1, .int .i64 c.2.1] 68)) 62 (bs c.2.2)
    rw [show ((w.alloc (.cells #[dp d] 27)).alloc (.cells #[.int .i64 c.1, .int .i64 c.2.1] 68)).heap.size = w.heap.size + 2 by simp] at this
    rw [hw1]
    exact this
  have hI1 := hI.below hB1
  have hdl := hI.lt
  obtain ⟨gz, cz, lb, cv, nb, hD, hown, hcv, hm, hmn, t1, t2, t3, t4, t5⟩ := id hI1
  have hfl := hO.fit.1
  have hns := hO.ns
  have hLl : D.L.length = D.n := by omega
  have HZ := Lib.hid fun w' (hb : Below w1.heap.size w1 w') => zwrite_any D.conv D.soft D.seq D.size D.opn c.1 c.2.1 (some ⟨gz, 0, none⟩) D.n cz D.L w' hO.nl hLl hO.ok.some hns (((Rd.own hown).below hb).more hb.size) hO.ok.2.2.2.2.2.2.2
  have hSO : ∀ w', Below w1.heap.size w1 w' → w'.cell? ⟨d, 0, none⟩ = some (.int .i64 D.conv) ∧ w'.cell? ⟨d, 1, none⟩ = some (.int .i64 D.soft) ∧ w'.cell? ⟨d, 2, none⟩ = some (.int .i64 D.seq) ∧ w'.cell? ⟨d, 3, none⟩ = some (.int .i64 D.size) ∧ w'.cell? ⟨d, 4, none⟩ = some (.int .i64 D.opn) ∧
      w'.cell? ⟨d, 5, none⟩ = some (.slice (some ⟨gz, 0, none⟩) D.n cz) ∧ w'.cell? ⟨w.heap.size, 0, none⟩ = some (dp d) ∧ w'.cell? ⟨w.heap.size + 1, 0, none⟩ = some (.int .i64 c.1) ∧ w'.cell? ⟨w.heap.size + 1, 1, none⟩ = some (.int .i64 c.2.1) := by
    intro w' hb
    have hDw := hD.same (hb.block _ hD.lt)
    obtain ⟨g0, g1, g2, g3, g4⟩ := hDw.geo
    exact ⟨g0, g1, g2, g3, g4, hDw.mem.1, (x0.same (hb.block _ x0.lt)).cell 0, (x1.same (hb.block _ x1.lt)).cell 0, (x1.same (hb.block _ x1.lt)).cell 1⟩
  have SO := Lib.hid hSO
  generalize hrD : writeD D c = r
  have HRD := Lib.hid hrD
  clear hrD
  generalize hR : writeL D.conv D.soft D.seq D.size D.opn D.L c.1 c.2.1 = R at HZ
  obtain ⟨L', e⟩ := R
  have HR := Lib.hid hR
  have HA := Lib.hid (And.intro hI1 (And.intro x0 (And.intro x1 (And.intro x2 (And.intro hB1 (And.intro hz1 hdl))))))
  clear hI hI1 x0 x1 x2 hB1 hz1 hdl hD hown hcv hm hmn t1 t2 t3 t4 t5 hfl hns hLl hSO hR
  go_enter Try.func24, Try.ntmps24
  go_wp2_with fail
  rw [← hw1]
  clear hw1
  go_region_held3 (fun w' => w'.cell? ⟨d, 0, none⟩ = some (.int .i64 D.conv) ∧ w'.cell? ⟨d, 1, none⟩ = some (.int .i64 D.soft) ∧ w'.cell? ⟨d, 2, none⟩ = some (.int .i64 D.seq) ∧ w'.cell? ⟨d, 3, none⟩ = some (.int .i64 D.size) ∧ w'.cell? ⟨d, 4, none⟩ = some (.int .i64 D.opn) ∧
      w'.cell? ⟨d, 5, none⟩ = some (.slice (some ⟨gz, 0, none⟩) D.n cz) ∧ w'.cell? ⟨w.heap.size, 0, none⟩ = some (dp d) ∧ w'.cell? ⟨w.heap.size + 1, 0, none⟩ = some (.int .i64 c.1) ∧ w'.cell? ⟨w.heap.size + 1, 1, none⟩ = some (.int .i64 c.2.1))
    (first | exact SO.out _ (Below.refl _ _).drew | exact SO.out _ B2)
    (((with_reducible refine (HZ.out _ (Below.refl _ _).drew).mono ?_); rintro x w2 ⟨g2, c2, rfl, hown2, hb2⟩; have B2 : Below w1.heap.size w1 w2 := bthen (Below.refl _ _).drew hb2))
  obtain ⟨hI1, x0, x1, x2, hB1, hz1, hdl⟩ := HA.out
  have hown2' := own_base0 hown2 (Nat.zero_le _)
  have hI2 := hI1.below B2
  have hF2 : Fr T w w2 := (Fr.of_below hB1).trans (Fr.of_below B2)
  have c0 : w2.cell? ⟨w.heap.size, 0, none⟩ = some (dp d) := (x0.same (B2.block _ x0.lt)).cell 0
  by_cases hd : D.down = true
  · have HC := Lib.hid (command_down (.slice (some ⟨g2, 0, none⟩) D.n c2) e (.func (.func 45) #[] #[.pointer (some ⟨w.heap.size, 0, none⟩), .pointer (some ⟨w.heap.size + 1, 0, none⟩), .pointer (some ⟨w.heap.size + 1 + 1, 0, none⟩)]) hI2 hd)
    have H2 := Lib.hid (And.intro hI2 (And.intro hF2 hd))
    clear hI2 hF2 hd hI1 x0 x1 x2 hB1 hz1 hdl hb2 B2 hown2
    go_wp2_with fail
    refine HC.out.mono ?_
    rintro x w3 ⟨rfl, rfl⟩
    go_wp2
    go_ret
    have e1 : r = (2, D) := by rw [← HRD.out]; exact if_pos H2.out.2.2
    rw [e1]
    exact ⟨rfl, H2.out.1, H2.out.2.1⟩
  · have hd' : D.down = false := by simpa using hd
    by_cases he : e = 0
    · subst he
      have hg2 := own_at hown2 hn0
      have hg2' : w1.heap.size ≤ g2 := by
        obtain ⟨g', e', l1, l2⟩ := hg2
        injection e' with e'
        injection e' with e'
        have : w1.drew.heap.size = w1.heap.size := rfl
        omega
      obtain ⟨gz2, cz2, lb2, cv2, nb2, hD2, hownz, hcv2, hm2, hmn2, t1, t2, t3, t4, t5, t6⟩ := id hI2
      have e3 : ∀ x, x ≠ d → (w2.setCell ⟨d, 5, none⟩ (.slice (some ⟨g2, 0, none⟩) D.n c2)).heap[x]? = w2.heap[x]? := fun x hx => heap_setCell_other _ _ _ _ hx
      have hz3 : (w2.setCell ⟨d, 5, none⟩ (.slice (some ⟨g2, 0, none⟩) D.n c2)).heap.size = w2.heap.size := by simp [World.setCell]
      have hcv3 : (w2.setCell ⟨d, 5, none⟩ (.slice (some ⟨g2, 0, none⟩) D.n c2)).ownsRow 0 84 66 cv2 D.cache.length (wcs D.cache) := own_same hcv2 fun g hg => e3 g (fun h => hD2.ne_row hcv2 hg (by decide) h.symm)
      have hm3 : MapIs (w2.setCell ⟨d, 5, none⟩ (.slice (some ⟨g2, 0, none⟩) D.n c2)) lb2 D.use D.last := hm2.same (e3 _ (fun h => hD2.ne_map hm2 h.symm))
      have hmn3 : MapIs (w2.setCell ⟨d, 5, none⟩ (.slice (some ⟨g2, 0, none⟩) D.n c2)) nb2 D.cache.length (newestV D.cache) := hmn2.same (e3 _ (fun h => hD2.ne_map hmn2 h.symm))
      have hs2 := B2.size
      have hw := write1_any w.heap.size (w.heap.size + 1) (w.heap.size + 2) c.1 c.2.1 c.2.2 D.cache D.cache.length hc hO.wok h64.1 h64.2 (by omega) (by omega) (hD2.set5 (.slice (some ⟨g2, 0, none⟩) D.n c2)) hcv3 hmn3
        ((x0.same (B2.block _ x0.lt)).same (e3 _ (by omega))) ((x1.same (B2.block _ x1.lt)).same (e3 _ (by omega))) ((x2.same (B2.block _ x2.lt)).same (e3 _ (by omega)))
      have hF : Calls Try.prog 45 #[.pointer (some ⟨w.heap.size, 0, none⟩), .pointer (some ⟨w.heap.size + 1, 0, none⟩), .pointer (some ⟨w.heap.size + 1 + 1, 0, none⟩)] (w2.setCell ⟨d, 5, none⟩ (.slice (some ⟨g2, 0, none⟩) D.n c2)) fun x w' =>
          x = .returned (.tuple #[]) ∧ DevIs T w' d { D with L := L', cache := D.cache ++ [c] } ∧ Fr T (w2.setCell ⟨d, 5, none⟩ (.slice (some ⟨g2, 0, none⟩) D.n c2)) w' := by
        refine hw.mono ?_
        rintro x w' ⟨rfl, cv', k1, k2, k3, k4, k5⟩
        have hl2 := hown2.lt g2 rfl
        have hng : g2 ≠ nb2 := fun h => hmn2.ne_row hown2' rfl h.symm
        have hfr : Fr T (w2.setCell ⟨d, 5, none⟩ (.slice (some ⟨g2, 0, none⟩) D.n c2)) w' := k4.mono fun k _ h => h.elim (fun h => h ▸ t1) (fun h => h.elim (fun h => h ▸ t4) (fun h => t5 _ h))
        refine ⟨rfl, ⟨g2, c2, lb2, cv', nb2, k1, ?_, k2, hm3.same (k4.same hm3.lt ?_), by simpa using k3, t1, hT _ (by omega), t3, t4, (fun g hg => ?_), t6⟩, hfr⟩
        · refine own_same hown2' fun g hg => ?_
          injection hg with hg
          have hg : g2 = g := hg
          subst hg
          refine (k4.same (by omega) ?_).trans (e3 _ (by omega))
          rintro (h | h | h)
          · omega
          · exact hng h
          · obtain ⟨_, q1, q2⟩ := own_type hcv2 h
            obtain ⟨_, q3, q4⟩ := own_type hown2' rfl
            rw [q2] at q4
            injection q4 with q4
            injection q4 with _ q4
            exact absurd q4 (by decide)
        · rintro (h | h | h)
          · exact hD2.ne_map hm2 h.symm
          · exact t6 h
          · exact hm2.ne_row hcv2 h rfl
        · rcases k5 with h | ⟨g', h, h'⟩
          · exact t5 g (h ▸ hg)
          · rw [h] at hg; injection hg with hg; exact hT _ (by omega)
      have HC := Lib.hid (command_ok g2 D.n c2 45 #[.pointer (some ⟨w.heap.size, 0, none⟩), .pointer (some ⟨w.heap.size + 1, 0, none⟩), .pointer (some ⟨w.heap.size + 1 + 1, 0, none⟩)] { D with L := L', cache := D.cache ++ [c] } hO hI2 hd' hd' hO.arm0 hO.arm1
        (goes_in Try.func45 (by kernel_rfl) rfl) hF)
      have H2 := Lib.hid (And.intro hF2 hd)
      clear hI2 hF2 hd hd' hI1 x0 x1 x2 hB1 hz1 hdl hb2 B2 hown2 hown2' hg2 hg2' hD2 hownz hcv2 hm2 hmn2 t1 t2 t3 t4 t5 t6 e3 hz3 hcv3 hm3 hmn3 hs2 hw hF
      go_wp2_with fail
      refine HC.out.mono ?_
      rintro x w3 ⟨rfl, hI3, hF3⟩
      have H3 := Lib.hid (And.intro hI3 hF3)
      clear hI3 hF3
      go_wp2
      go_ret
      have e1 : r = (0, tick { D with L := L', cache := D.cache ++ [c] }) := by rw [← HRD.out]; unfold writeD; rw [HR.out]; exact (if_neg H2.out.2).trans (if_neg (fun h => h rfl))
      rw [e1]
      exact ⟨rfl, H3.out.1, H2.out.1.trans H3.out.2⟩
    · have HC := Lib.hid (command_no (.slice (some ⟨g2, 0, none⟩) D.n c2) e (.func (.func 45) #[] #[.pointer (some ⟨w.heap.size, 0, none⟩), .pointer (some ⟨w.heap.size + 1, 0, none⟩), .pointer (some ⟨w.heap.size + 1 + 1, 0, none⟩)]) he hO hI2 hd')
      have H2 := Lib.hid (And.intro hF2 (And.intro hd he))
      clear hI2 hF2 hd he hd' hI1 x0 x1 x2 hB1 hz1 hdl hb2 B2 hown2
      go_wp2_with fail
      refine HC.out.mono ?_
      rintro x w3 ⟨rfl, hI3, hF3⟩
      have H3 := Lib.hid (And.intro hI3 hF3)
      clear hI3 hF3
      go_wp2
      go_ret
      have e1 : r = (e, { D with ill := D.ill + 1 }) := by rw [← HRD.out]; unfold writeD; rw [HR.out]; exact (if_neg H2.out.2.1).trans (if_pos H2.out.2.2)
      rw [e1]
      exact ⟨rfl, H3.out.1, H2.out.1.trans H3.out.2⟩
end
end Go.Proofs.Ythgjlofebicpiaa

/-
  Package dev: settle, of a device; Flush; the closure of one zone.
-/
namespace Go.Proofs.Ythgjlofebicpiaa
open Go.RowKit Geom Zone Dev
set_option linter.unusedVariables false

/-- where all orders of a region come to one end, but for the world that a call has left -/
def MeetW (A : World → Act) (W : World → World) (R : World → Prop) : Exit → Act → World → Prop
  | .normal, a, w => ∃ w5, R w5 ∧ a = A w5 ∧ w = W w5
  | _, _, _ => False
theorem wp_meetW {P : Program} {c : Code} {Q : Exit → Act → World → Prop} {a : Act} {w : World} {A : World → Act} {W : World → World} (R : World → Prop) (h : c.wp P (MeetW A W R) a w) (h2 : ∀ w5, R w5 → Q .normal (A w5) (W w5)) : c.wp P Q a w :=
  Code.wp_mono (fun e a' w' hm => by
    cases e <;> first | exact (hm : False).elim | (obtain ⟨w5, hr, rfl, rfl⟩ := (hm : ∃ w5, R w5 ∧ a' = A w5 ∧ w' = W w5); exact h2 w5 hr)) h

namespace Dev
/-- what stays, and what lasts, where each sector's fate hangs on it alone -/
def sortD (step : Wr → Int) (D : Dv) : Dv :=
  { D with cache := (stl (fun (_ : Unit) c => (step c, ())) D.cache ((), [], D.last)).2.1, last := (stl (fun (_ : Unit) c => (step c, ())) D.cache ((), [], D.last)).2.2, use := D.use + D.cache.length }
def flushD (D : Dv) : Int × Dv := if D.down = true then (2, D) else (0, tick (sortD (fun _ => 1) D))
end Dev
section
variable {w : World} {d : Nat} {T : Nat → Prop} {D : Dv}
theorem Box.ne_map {b m n : Nat} {t : TypeId} {cs : List Value} {f : Int × Int → Option Value} (h : Box w b t cs) (hm : MapIs w m n f) : b ≠ m := by
  rintro rfl
  obtain ⟨es, clock, h2⟩ := hm.is_map
  unfold Box at h
  rw [h2] at h
  cases h
theorem settle_dev (F : FuncId) (cap2 : Array Value) (step : Wr → Int) (Inv : World → Prop) (J : Nat → Prop) (hT : ∀ k, w.heap.size ≤ k → T k) (hO : DvOk D) (hI : DevIs T w d D) (hInv : Inv w)
    (hJ : ∀ k, J k → ∃ t cs, Box w k t cs ∧ t ≠ 82 ∧ t ≠ 84) (hJI : ∀ w' w'', Inv w' → (∀ k, J k → w''.heap[k]? = w'.heap[k]?) → Inv w'')
    (hE : ∀ (args : Array Value) (w' : World), (callFunc F args).run Try.prog w' = .ok (.enter F args) w')
    (hF : ∀ (c : Wr) (w' : World), c ∈ D.cache → Inv w' → Calls Try.prog F (#[.agg (wc c).toArray] ++ cap2) w' fun e w'' => e = .returned (.int .i64 (step c)) ∧ Below w'.heap.size w' w'') :
    Calls Try.prog 33 #[dp d, .func (.func F) #[] cap2] w fun x w' => x = .returned (.tuple #[]) ∧ DevIs T w' d (sortD step D) ∧ Fr T w w' ∧ Inv w' := by
  obtain ⟨gz, cz, lb, cv, nb, hD, hown, hcv, hm, hmn, t1, t2, t3, t4, t5, t6⟩ := hI
  have hjl : ∀ k, (J k ∨ k = gz) → k < w.heap.size ∧ k ≠ d ∧ k ≠ lb ∧ cv.ownBlock ≠ some k := by
    rintro k (hk | rfl)
    · obtain ⟨t, cs, hb, n1, n2⟩ := hJ k hk
      have hDB : Box w d 82 (dcs D.conv D.soft D.seq D.size D.opn (.slice (some ⟨gz, 0, none⟩) D.n cz) lb cv nb D.down D.armed D.ill).toList := hD
      exact ⟨hb.lt, hb.ne hDB n1, hb.ne_map hm, fun h => hb.ne_row hcv h n2 rfl⟩
    · refine ⟨(hown.lt k rfl).2, fun e => hD.ne_row hown rfl (by decide) e.symm, fun e => hm.ne_row hown rfl e.symm, fun h => ?_⟩
      obtain ⟨_, c1, e1⟩ := own_type hcv h
      obtain ⟨_, c2, e2⟩ := own_type hown rfl
      rw [e1] at e2
      injection e2 with e2
      injection e2 with _ e2
      exact absurd e2 (by decide)
  have hS := settle_any (w := w) (d := d) F cap2 (fun (_ : Unit) c => (step c, ())) (fun _ w' => Inv w' ∧ w'.heap[gz]? = w.heap[gz]?) (fun k => J k ∨ k = gz) (fun _ => False) () D.cache D.use 0 D.last hO.wok (fun c hc => (hO.place64 hc).1) hO.cl hO.use hD hcv hm ⟨hInv, rfl⟩ hjl (fun k hk => hk.elim)
    (fun _ w' w'' h e => ⟨hJI w' w'' h.1 (fun k hk => e k (.inl hk)), (e gz (.inr rfl)).trans h.2⟩) hE
    (fun _ c w' cv' nb' hc hi hDw hsz => (hF c w' hc hi.1).mono fun e w'' ⟨he, hb⟩ => ⟨he, ⟨hJI w' w'' hi.1 fun k hk => hb.block k (by have := (hjl k (.inl hk)).1; omega), (hb.block gz (by have := (hown.lt gz rfl).2; omega)).trans hi.2⟩, Fr.of_below hb⟩)
  refine hS.mono ?_
  rintro e w' ⟨rfl, cv', nb', k1, k2, k3, k4, k5, k6, k7, k8, k9, k10⟩
  refine ⟨rfl, ⟨gz, cz, lb, cv', nb', k1, own_same hown fun g hg => ?_, k2, k6, k5, t1, t2, t3, hT _ k4, (fun g hg => hT _ (k3 g hg)), (by have := hm.lt; omega)⟩, k8.mono fun k _ h => ?_, k7.1⟩
  · injection hg with hg
    have hg : gz = g := hg
    exact hg ▸ k7.2
  · rcases h with h | h | h
    · exact h ▸ t1
    · exact h ▸ t3
    · exact h.elim

theorem DevIs.set5_self (h : DevIs T w d D) : ∃ gz cz, w.cell? ⟨d, 5, none⟩ = some (.slice (some ⟨gz, 0, none⟩) D.n cz) ∧ w.frozen? ⟨d, 5, none⟩ = false ∧ DevIs T (w.setCell ⟨d, 5, none⟩ (.slice (some ⟨gz, 0, none⟩) D.n cz)) d D := by
  obtain ⟨gz, cz, lb, cv, nb, hD, hown, hcv, hm, hmn, t⟩ := h
  have e : ∀ x, x ≠ d → (w.setCell ⟨d, 5, none⟩ (.slice (some ⟨gz, 0, none⟩) D.n cz)).heap[x]? = w.heap[x]? := fun x hx => heap_setCell_other _ _ _ _ hx
  exact ⟨gz, cz, hD.mem.1, hD.frozen 5, gz, cz, lb, cv, nb, hD.set5 _, own_same hown fun g hg => e g (fun h => hD.ne_row hown hg (by decide) h.symm), own_same hcv fun g hg => e g (fun h => hD.ne_row hcv hg (by decide) h.symm), hm.same (e _ (fun h => hD.ne_map hm h.symm)), hmn.same (e _ (fun h => hD.ne_map hmn h.symm)), t⟩
end
end Go.Proofs.Ythgjlofebicpiaa

/-
  Package dev: the closure of one zone; Finish.
-/
namespace Go.Proofs.Ythgjlofebicpiaa
open Go.RowKit Geom Zone Dev
set_option linter.unusedVariables false

namespace Dev
def zstep (z f : Int) (c : Wr) : Int := if c.1 = z then f else 0
end Dev
section
variable {w : World} {d : Nat} {T : Nat → Prop} {D : Dv}
end
end Go.Proofs.Ythgjlofebicpiaa

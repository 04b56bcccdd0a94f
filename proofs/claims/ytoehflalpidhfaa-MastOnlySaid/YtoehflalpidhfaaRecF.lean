/-
  'awake' of layer 6 answers true.
-/
import Derived.Test.YtoehflalpidhfaaRecE
namespace Go.Proofs.Ytoehflalpidhfaa
open Go.RowKit Word Crc Rec
set_option linter.unusedVariables false

/-- an array or a struct built of parts, what comes of it being known -/
theorem wpList_build_known {P : Program} {w : World} {ops : Array Oper} {rest : List Oper} {o : Oper} {a : Act} {Q : Exit → Act → World → Prop} (hgd : o.guard = none) (t : TypeId) (ps : Array (Nat × Operand)) (vs : Array (Nat × Value)) (ho : o.op = .build t ps) (hv : (ps.map fun (i, x) => (i, a.eval x)) = vs) (cs : List Value) (hb : ∀ w, (Instr.build t vs).run P w = .ok (.agg cs.toArray) w)
    (h : wpList P ops Q rest (a.put o.dst (.agg cs.toArray)) w) : wpList P ops Q (o :: rest) a w := by
  refine wpList_plain hgd fun K hK => ?_
  unfold Oper.wp execOp
  simp only [ho, Sem.run_bind]
  have e : (ps.map fun x => (x.1, a.eval x.2)) = vs := hv
  rw [e, hb w]
  simp only [Result.andThen_ok]
  exact hK _ _ h

abbrev recA : Rc := ⟨1, 3, 9, 5, 0, 7 :: List.replicate 31 0⟩
theorem recA_ok : Ok recA := by decide
theorem recA_in : In recA := ⟨by decide, by unfold octets; decide⟩
theorem recA_lay : (layL recA).getD 0 0 = 1 ∧ (layL recA).getD 1 0 = 3 ∧ (layL recA).getD 9 0 = 9 ∧ (layL recA).getD 17 0 = 5 ∧ (layL recA).getD 25 0 = 7 := by decide +kernel
theorem pg0_right : rightB pg0 = false := by decide +kernel
theorem read_pg0 : readS pg0 = (rc0, 8) := by unfold readS; rw [if_pos pg0_right]
theorem data7_build (w : World) : (Instr.build 51 #[(0, .int .u8 7)]).run Try.prog w = .ok (.agg (bs (7 :: List.replicate 31 0)).toArray) w := by
  unfold Instr.build
  simp only [Sem.run_bind, zero_data w, Result.andThen, run_underlying Try.underlying51, size_u8]
  rfl
set_option maxRecDepth 100000 in
theorem recA_build (w : World) : (Instr.build 53 #[(0, .int .i64 1), (1, .int .i64 3), (2, .int .i64 9), (3, .int .i64 5), (5, .agg (bs (7 :: List.replicate 31 0)).toArray)]).run Try.prog w = .ok (.agg (rcs recA).toArray) w := by
  have hp := rec_places w
  simp only [Program.fieldsOf, Try.underlying53] at hp
  unfold Instr.build
  simp only [Sem.run_bind, zero_rec w, Result.andThen, run_underlying Try.underlying53, hp]
  rfl
end Go.Proofs.Ytoehflalpidhfaa

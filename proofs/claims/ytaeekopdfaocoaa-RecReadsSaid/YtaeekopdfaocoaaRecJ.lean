/-
  The document's answers for layer 6: Right, low, high, Summed.
-/
import Derived.Test.YtaeekopdfaocoaaRecG
namespace Go.Proofs.Ytaeekopdfaocoaa
open Go.RowKit Word Crc Rec
set_option linter.unusedVariables false

set_option maxRecDepth 100000 in
set_option maxHeartbeats 4000000 in
theorem rright6_any (r : Rc) (w : World) (hi : In r) :
    Calls Try.prog 10 #[.agg (rcs r).toArray] w fun e w' => e = .returned (.bool (okB r)) ∧ Below w.heap.size w w' := by
  have hbx := Box.new w 25 (rcs r)
  have hB := (Below.refl w.heap.size w).alloc (Nat.le_refl _) (.cells (rcs r).toArray 25 (0, 0))
  obtain ⟨c0, c1, c2, c3, c4⟩ := hbx.rc
  have cd := hbx.rcData
  obtain ⟨m, hm, hsz⟩ := big_size (P := Try.prog) (t := 23) (s := 32) (by kernel_rfl)
  have hld := big_load0 Try.prog w.heap.size 5 (bs r.data) m (by rw [bs_length, hi.1, hm]) _ cd
  have hm0 : ¬ m = 0 := by omega
  have hq : ∀ w', (Op.equalIn 10000 23 (.agg (bs r.data).toArray) (.agg #[.int .u8 0, .int .u8 0, .int .u8 0, .int .u8 0, .int .u8 0, .int .u8 0, .int .u8 0, .int .u8 0, .int .u8 0, .int .u8 0, .int .u8 0, .int .u8 0, .int .u8 0, .int .u8 0, .int .u8 0, .int .u8 0, .int .u8 0, .int .u8 0, .int .u8 0, .int .u8 0, .int .u8 0, .int .u8 0, .int .u8 0, .int .u8 0, .int .u8 0, .int .u8 0, .int .u8 0, .int .u8 0, .int .u8 0, .int .u8 0, .int .u8 0, .int .u8 0])).run Try.prog w' = .ok (r.data == z32) w' := fun w' => equal_data w' r.data z32 hi.1 rfl
  have hgd := guard_data
  have HB := Lib.hid hB
  generalize hz : (r.data == z32) = zb at hq
  have HZ := Lib.hid (show zb = true ↔ r.data = z32 by rw [← hz]; exact beq_iff_eq)
  generalize hW : w.alloc (.cells (rcs r).toArray 25) = W at *
  generalize bs r.data = X at hld hq
  have HW := Lib.hid hW
  have HF : Hid (okB r = (numB r.epoch && numB r.seq && ((r.kind == 1 && (decide (0 ≤ r.block) && decide (r.block < 4096)) && r.count == 0) || (r.kind == 2 && (decide (0 ≤ r.block) && decide (r.block < 4096)) && r.count == 0 && zb) || (r.kind == 3 && (decide (0 ≤ r.block) && decide (r.block ≤ 1)) && (decide (0 ≤ r.count) && decide (r.count ≤ 4096)) && zb)))) := Lib.hid (by
    rw [okB_eq]
    congr 1
    unfold fitsB Fits
    rw [Bool.eq_iff_iff]
    simp only [decide_eq_true_eq, Bool.or_eq_true, Bool.and_eq_true, beq_iff_eq, HZ.out, and_assoc, or_assoc]
    have : (r.block = 0 ∨ r.block = 1) ↔ (0 ≤ r.block ∧ r.block ≤ 1) := by omega
    rw [this]
    simp only [and_assoc])
  clear hm hz hB hbx cd HZ hi
  generalize okB r = fb at HF
  obtain ⟨kind, epoch, seq, block, count, data⟩ := r
  simp only at *
  unfold numB at HF
  by_cases g0 : 1 ≤ epoch
  case neg =>
    go_enter Try.func10, Try.ntmps10
    go_wp2
    all_goals go_ret
    all_goals exact ⟨ret_bool (by rw [HF.out]; clear HW hW hq hld hsz c0 c1 c2 c3 c4; first | (simp; done) | (simp [*]; done) | (cases zb <;> simp [*] <;> omega) | (cases zb <;> simp_all)), HB.out⟩
  by_cases g1 : 1 ≤ seq
  case neg =>
    go_enter Try.func10, Try.ntmps10
    go_wp2
    all_goals go_ret
    all_goals exact ⟨ret_bool (by rw [HF.out]; clear HW hW hq hld hsz c0 c1 c2 c3 c4; first | (simp; done) | (simp [*]; done) | (cases zb <;> simp [*] <;> omega) | (cases zb <;> simp_all)), HB.out⟩
  by_cases g2 : epoch ≤ 1099511627776
  case neg =>
    go_enter Try.func10, Try.ntmps10
    go_wp2
    all_goals go_ret
    all_goals exact ⟨ret_bool (by rw [HF.out]; clear HW hW hq hld hsz c0 c1 c2 c3 c4; first | (simp; done) | (simp [*]; done) | (cases zb <;> simp [*] <;> omega) | (cases zb <;> simp_all)), HB.out⟩
  by_cases g3 : seq ≤ 1099511627776
  case neg =>
    go_enter Try.func10, Try.ntmps10
    go_wp2
    all_goals go_ret
    all_goals exact ⟨ret_bool (by rw [HF.out]; clear HW hW hq hld hsz c0 c1 c2 c3 c4; first | (simp; done) | (simp [*]; done) | (cases zb <;> simp [*] <;> omega) | (cases zb <;> simp_all)), HB.out⟩
  by_cases g4 : 1 ≤ kind
  case neg =>
    go_enter Try.func10, Try.ntmps10
    go_wp2
    all_goals go_ret
    all_goals exact ⟨ret_bool (by rw [HF.out]; clear HW hW hq hld hsz c0 c1 c2 c3 c4; first | (simp; done) | (simp [*]; done) | (cases zb <;> simp [*] <;> omega) | (cases zb <;> simp_all)), HB.out⟩
  by_cases g5 : kind ≤ 3
  case neg =>
    go_enter Try.func10, Try.ntmps10
    go_wp2
    all_goals go_ret
    all_goals exact ⟨ret_bool (by rw [HF.out]; clear HW hW hq hld hsz c0 c1 c2 c3 c4; first | (simp; done) | (simp [*]; done) | (cases zb <;> simp [*] <;> omega) | (cases zb <;> simp_all)), HB.out⟩
  have hk : kind = 1 ∨ kind = 2 ∨ kind = 3 := by omega
  have e1 : decide (1 ≤ epoch) = true := decide_eq_true g0
  rcases hk with rfl | rfl | rfl
  · rcases (show (¬ 0 ≤ block) ∨ (0 ≤ block ∧ ¬ block < 4096) ∨ (0 ≤ block ∧ block < 4096 ∧ ¬ count = 0) ∨ (0 ≤ block ∧ block < 4096 ∧ count = 0) by omega) with q0 | ⟨q0, q1⟩ | ⟨q0, q1, q2⟩ | ⟨q0, q1, rfl⟩ <;>
    (go_enter Try.func10, Try.ntmps10
     go_wp2
     all_goals go_ret
     all_goals exact ⟨ret_bool (by rw [HF.out]; clear HW hW hq hld hsz c0 c1 c2 c3 c4; first | (simp; done) | (simp [*]; done) | (cases zb <;> simp [*] <;> omega) | (cases zb <;> simp_all)), HB.out⟩)
  · rcases (show (¬ 0 ≤ block) ∨ (0 ≤ block ∧ ¬ block < 4096) ∨ (0 ≤ block ∧ block < 4096 ∧ ¬ count = 0) ∨ (0 ≤ block ∧ block < 4096 ∧ count = 0) by omega) with q0 | ⟨q0, q1⟩ | ⟨q0, q1, q2⟩ | ⟨q0, q1, rfl⟩ <;>
    (go_enter Try.func10, Try.ntmps10
     go_wp2
     all_goals go_ret
     all_goals exact ⟨ret_bool (by rw [HF.out]; clear HW hW hq hld hsz c0 c1 c2 c3 c4; first | (simp; done) | (simp [*]; done) | (cases zb <;> simp [*] <;> omega) | (cases zb <;> simp_all)), HB.out⟩)
  · rcases (show (¬ 0 ≤ block) ∨ (0 ≤ block ∧ ¬ block ≤ 1) ∨ (0 ≤ block ∧ block ≤ 1 ∧ ¬ 0 ≤ count) ∨ (0 ≤ block ∧ block ≤ 1 ∧ 0 ≤ count ∧ ¬ count ≤ 4096) ∨ (0 ≤ block ∧ block ≤ 1 ∧ 0 ≤ count ∧ count ≤ 4096) by omega) with q0 | ⟨q0, q1⟩ | ⟨q0, q1, q2⟩ | ⟨q0, q1, q2, q3⟩ | ⟨q0, q1, q2, q3⟩ <;>
    (go_enter Try.func10, Try.ntmps10
     go_wp2
     all_goals go_ret
     all_goals exact ⟨ret_bool (by rw [HF.out]; clear HW hW hq hld hsz c0 c1 c2 c3 c4; first | (simp; done) | (simp [*]; done) | (cases zb <;> simp [*] <;> omega) | (cases zb <;> simp_all)), HB.out⟩)
end Go.Proofs.Ytaeekopdfaocoaa
